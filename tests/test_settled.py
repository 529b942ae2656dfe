import copy
import inspect
from itertools import permutations, product

from defaultswaps import settled as module
from defaultswaps.errors import AtomsError, BookError, SetError, SetsError
from defaultswaps.pairs import pairs
from defaultswaps.rules import is_rulebook
from defaultswaps.settled import is_settled, reason, rules_settling, settled, shows
from tests import oracle, wrong
from tests.case import Case

CHOICE = (2, ((0, (), (1,)), (1, (), (0,))))
# 1 follows from 0, which the book has only behind it; 2 follows by two rules.
CHAIN = (4, ((1, (0,), (3,)), (2, (1,), ()), (0, (), ()), (2, (0,), ()), (3, (3,), ()), (None, (3,), ())))


class Interface(Case):
    def test_names_and_arguments(self):
        self.assert_interface(module, {
            "settled": ["book"], "is_settled": ["book", "chosen"], "reason": ["book", "chosen"],
            "shows": ["book", "chosen", "thing"], "rules_settling": ["atoms", "sets"],
        })
        self.assertTrue(inspect.isgenerator(settled(CHOICE)))


class Settled(Case):
    def test_ordinary_rulebooks(self):
        self.assertEqual(list(settled((2, ((0, (), (1,)),)))), [(0,)])
        self.assertEqual(list(settled(CHOICE)), [(0,), (1,)])
        self.assertEqual(list(settled(CHAIN)), [(0, 1, 2)])

    def test_no_rules_settle_the_empty_set(self):
        for atoms in (1, 2, 3, 4):
            self.assertEqual(list(settled((atoms, ()))), [()])

    def test_rulebooks_with_none(self):
        for book in (
            (1, ((0, (), (0,)),)), (1, ((None, (), ()),)), (2, ((None, (), (1,)),)),
            (2, (*CHOICE[1], (None, (0,), ()), (None, (1,), ()))), (3, ((0, (), (1,)), (1, (), (2,)), (2, (), (0,)))),
        ):
            self.assertEqual(list(settled(book)), [])

    def test_a_circle_does_not_bring_itself(self):
        self.assertEqual(list(settled((1, ((0, (0,), ()),)))), [()])
        self.assertEqual(list(settled((2, ((0, (1,), ()), (1, (0,), ()))))), [()])

    def test_several_ascending(self):
        rules = tuple((a, (), tuple(b for b in range(4) if b != a)) for a in (3, 1, 0, 2))
        self.assertEqual(list(settled((4, rules))), [(0,), (1,), (2,), (3,)])
        halves = ((0, (), (2,)), (2, (), (0,)), (1, (), (3,)), (3, (), (1,)))
        self.assertEqual(list(settled((4, halves))), [(0, 1), (0, 3), (1, 2), (2, 3)])

    def test_a_rule_without_a_head_rules_out(self):
        self.assertEqual(list(settled((2, (*CHOICE[1], (None, (0,), ()))))), [(1,)])
        self.assertEqual(list(settled((2, (*CHOICE[1], (None, (), (0,)))))), [(0,)])

    def test_search_set_by_set(self):
        for book in oracle.many_books() + oracle.settling_books():
            found = list(settled(book))
            self.assertEqual(found, list(oracle.settled(book)))
            self.assertEqual(found, sorted(set(found)))
            for chosen in oracle.all_sets(book[0]):
                self.assertIs(is_settled(book, chosen), chosen in found)

    def test_every_one_and_two_rules(self):
        for atoms in (1, 2):
            for rules in product(oracle.all_rules(atoms), repeat=2):
                book = (atoms, rules if rules[0] != rules[1] else rules[:1])
                self.assertEqual(tuple(settled(book)), oracle.settled(book))

    def test_just_the_sets_whose_only_pair_is_with_themselves(self):
        for book in oracle.many_books() + oracle.settling_books():
            found = pairs(book)
            tops = [y for x, y in found if x == y]
            alone = [y for y in tops if not any(z == y and x != y for x, z in found)]
            self.assertEqual(list(settled(book)), sorted(alone))

    def test_many_rules(self):
        every = oracle.all_rules(4)
        books = [(4, tuple(every[start:start + 100])) for start in (0, 300, len(every) - 100)]
        for kept in (((),), ((0, 1, 2, 3),), ((0, 1), (0, 2)), ((0,), (1, 2), (3,)), ((0, 3), (1, 3), (2, 3))):
            book = oracle.book_keeping(100, 5, *kept)
            self.assertEqual(tuple(settled(book)), kept)
            books.append(book)
        for book in books:
            self.assertEqual(tuple(settled(book)), oracle.settled(book))

    def test_order_of_the_rules_does_not_matter(self):
        for order in permutations(CHAIN[1]):
            self.assertEqual(list(settled((4, order))), [(0, 1, 2)])

    def test_two_generators_side_by_side(self):
        one, other = settled(CHOICE), settled(CHOICE)
        self.assertEqual(next(one), (0,))
        self.assertEqual(next(other), (0,))
        self.assertEqual(next(one), (1,))
        self.assertEqual(list(one), [])
        self.assertEqual(list(other), [(1,)])
        self.assertEqual(list(zip(settled(CHOICE), settled(CHAIN))), [((0,), (0, 1, 2))])

    def test_book_error_at_the_first_result(self):
        for book in wrong.no_rulebooks():
            self.assert_error(BookError, lambda thing: next(settled(thing)), book)
            self.assert_error(BookError, lambda thing: list(settled(thing)), book)


class Reason(Case):
    def test_the_first_violated_rule_of_the_book(self):
        book = (3, ((2, (0,), (2,)), (None, (0, 1), ()), (2, (1,), ()), (0, (), ())))
        self.assertEqual(reason(book, (0, 1)), ("violated", (2, (0,), (2,))))
        self.assertEqual(reason((3, book[1][::-1]), (0, 1)), ("violated", (2, (1,), ())))
        self.assertEqual(reason(book, (1,)), ("violated", (2, (1,), ())))
        self.assertEqual(reason(book, (0, 1, 2)), ("violated", (None, (0, 1), ())))

    def test_violated_comes_before_smaller(self):
        book = (2, ((None, (1,), ()),))
        self.assertEqual(reason(book, (0, 1)), ("violated", (None, (1,), ())))
        self.assertEqual(reason(book, (0,)), ("smaller", ()))

    def test_rules_taken_again_from_the_first_on(self):
        self.assertEqual(
            reason(CHAIN, (0, 1, 2)), ("settled", ((0, (), ()), (1, (0,), (3,)), (2, (1,), ()))),
        )

    def test_the_order_follows_the_book(self):
        rules = ((0, (), ()), (1, (), ()), (2, (), ()))
        for order in permutations(rules):
            self.assertEqual(reason((3, order), (0, 1, 2)), ("settled", order))

    def test_several_rules_for_a_head(self):
        rules = ((0, (1,), ()), (0, (), (1,)), (0, (), (2,)), (1, (), (2,)), (0, (), ()))
        self.assertEqual(reason((3, rules), (0, 1)), ("settled", ((0, (), (2,)), (1, (), (2,)))))
        # With the rule for 1 before it, the first of the book is taken although it could not be at first.
        changed = (rules[0], rules[3], *rules[1:3])
        self.assertEqual(reason((3, changed), (0, 1)), ("settled", (rules[3], rules[0])))

    def test_a_rule_that_does_not_remain_is_not_taken(self):
        rules = ((0, (), (1,)), (0, (), (0,)), (1, (), ()), (0, (1,), ()))
        self.assertEqual(reason((2, rules), (0, 1)), ("settled", (rules[2], rules[3])))

    def test_rules_that_hold_their_own_head_or_more(self):
        rules = ((0, (0,), ()), (1, (1, 2), ()), (2, (), ()), (0, (2,), ()), (None, (1,), ()))
        self.assertEqual(reason((3, rules), (0, 2)), ("settled", (rules[2], rules[3])))

    def test_the_empty_set(self):
        for book in ((1, ()), (2, ((0, (1,), ()),)), (4, ((None, (0,), ()), (0, (1,), ())))):
            self.assertEqual(reason(book, ()), ("settled", ()))

    def test_smaller_is_the_least_set(self):
        book = (3, ((0, (), ()), (1, (2,), ()), (2, (1,), ())))
        self.assertEqual(reason(book, (0, 1, 2)), ("smaller", (0,)))
        self.assertEqual(reason((3, ()), (0, 1, 2)), ("smaller", ()))
        self.assertEqual(reason((3, ((0, (), (1,)), (1, (1,), ()))), (1, 2)), ("smaller", ()))

    def test_search_by_the_words(self):
        words = set()
        for book in oracle.many_books() + oracle.settling_books():
            for chosen in oracle.all_sets(book[0]):
                found = reason(book, chosen)
                self.assertEqual(found, oracle.reason(book, chosen))
                self.assertIs(found[0] == "settled", is_settled(book, chosen))
                words.add(found[0])
        self.assertEqual(words, {"violated", "settled", "smaller"})

    def test_hundred_rules(self):
        for seed in range(5):
            book = oracle.book_keeping(100, seed, (0, 1, 3), (2, 3))
            for chosen in oracle.all_sets(4):
                self.assertEqual(reason(book, chosen), oracle.reason(book, chosen))

    def test_it_shows(self):
        for book in oracle.many_books() + oracle.settling_books():
            for chosen in oracle.all_sets(book[0]):
                self.assertIs(shows(book, chosen, reason(book, chosen)), True)


class Shows(Case):
    def test_any_violated_rule(self):
        book = (3, ((2, (0,), (2,)), (None, (0, 1), ()), (2, (1,), ()), (0, (), ())))
        for rule, answer in zip(book[1], (True, True, True, False)):
            self.assertIs(shows(book, (0, 1), ("violated", rule)), answer)
        for rule in oracle.all_rules(3):
            expected = rule in book[1] and oracle.violates((0, 1), rule)
            self.assertIs(shows(book, (0, 1), ("violated", rule)), expected)

    def test_any_order(self):
        zero, one, two = (0, (), ()), (1, (), ()), (2, (0,), ())
        book = (3, (two, one, zero, (2, (0, 1), ()), (1, (2,), (0,))))
        for order in ((one, zero, two), (zero, two, one), (zero, one, two), (one, zero, book[1][3])):
            self.assertIs(shows(book, (0, 1, 2), ("settled", order)), True, order)
        for order in ((two, zero, one), (zero, book[1][3], one), (zero, two, book[1][4]), (one, two, zero)):
            self.assertIs(shows(book, (0, 1, 2), ("settled", order)), False, order)

    def test_heads_twice_left_out_or_too_many(self):
        zero, again, one, two = (0, (), ()), (0, (), (3,)), (1, (0,), ()), (2, (), (3,))
        book = (4, (zero, again, one, two))
        good = (zero, one, two)
        self.assertIs(shows(book, (0, 1, 2), ("settled", good)), True)
        for order in (
            (), (zero,), (zero, one), (zero, zero, one), (zero, again, one), (zero, one, two, again),
            (zero, one, two, two), (zero, again, one, two), (one, zero, two), good + good,
        ):
            self.assertIs(shows(book, (0, 1, 2), ("settled", order)), False, order)
        self.assertIs(shows(book, (0, 1), ("settled", good)), False)
        self.assertIs(shows((4, good), (0, 1, 2, 3), ("settled", good)), False)

    def test_rules_that_do_not_remain_or_are_not_in_the_book(self):
        rules = ((0, (), ()), (0, (), (1,)), (1, (0,), ()), (1, (0,), (0,)))
        self.assertIs(shows((2, rules), (0, 1), ("settled", (rules[0], rules[2]))), True)
        for order in ((rules[1], rules[2]), (rules[0], rules[3]), (rules[0], (1, (), ())), ((0, (), (2,)), rules[2])):
            self.assertIs(shows((2, rules), (0, 1), ("settled", order)), False, order)

    def test_an_order_of_a_set_that_violates_a_rule(self):
        rules = ((0, (), ()), (None, (0,), ()), (1, (0,), (1,)))
        self.assertIs(shows((2, rules[:1]), (0,), ("settled", rules[:1])), True)
        self.assertIs(shows((2, rules[:2]), (0,), ("settled", rules[:1])), False)
        self.assertIs(shows((2, (rules[0], rules[2])), (0,), ("settled", rules[:1])), False)
        self.assertIs(shows((2, (rules[0],)), (), ("settled", ())), False)

    def test_rules_without_a_head_in_an_order(self):
        rules = ((0, (), ()), (None, (1,), ()), (None, (), (0,)), (None, (), ()))
        for order in ((rules[0], rules[1]), (rules[1],), (rules[1], rules[0]), (rules[2],), (rules[3],)):
            self.assertIs(shows((2, rules[:3]), (0,), ("settled", order)), False, order)
            self.assertIs(shows((2, rules), (0,), ("settled", order)), False, order)
            self.assertIs(shows((2, rules[:3]), (0, 1), ("settled", order)), False, order)

    def test_any_smaller_set_that_fits(self):
        book = (3, ((0, (), ()), (1, (2,), ()), (2, (1,), (0,))))
        for x, answer in zip(oracle.all_sets(3), (False, True, True, False, False, False, False, False)):
            self.assertIs(shows(book, (0, 1, 2), ("smaller", x)), answer, x)
        for x in oracle.all_sets(3):
            self.assertIs(shows((3, ()), (0, 2), ("smaller", x)), x in ((), (0,), (2,)), x)

    def test_no_smaller_set_where_the_set_violates_a_rule(self):
        book = (2, ((None, (0, 1), ()),))
        self.assertIs(shows(book, (0, 1), ("smaller", ())), False)
        self.assertIs(shows(book, (1,), ("smaller", ())), True)

    def candidates(self, book):
        atoms, rules = book
        near = [*rules, *[(head, holds[1:], fails) for head, holds, fails in rules if holds]]
        yield from [("violated", rule) for rule in near]
        yield from [("smaller", x) for x in oracle.all_sets(atoms)]
        for size in range(min(atoms, 3) + 1):
            yield from [("settled", order) for order in product(near, repeat=size)]

    def test_search_among_all_candidates(self):
        accepted = {"violated": 0, "settled": 0, "smaller": 0}
        for book in oracle.settling_books(12):
            if len(book[1]) > 5:
                continue
            candidates = list(self.candidates(book))
            for chosen in oracle.all_sets(book[0]):
                expected = oracle.reasons(book, chosen)
                for thing in candidates:
                    self.assertIs(shows(book, chosen, thing), thing in expected)
                    accepted[thing[0]] += thing in expected
        self.assertGreater(min(accepted.values()), 20, accepted)

    def test_all_that_there_is_shows(self):
        for book in oracle.many_books() + oracle.settling_books():
            if len(book[1]) > 10:
                continue
            for chosen in oracle.all_sets(book[0]):
                for thing in oracle.reasons(book, chosen):
                    self.assertIs(shows(book, chosen, thing), True)

    def test_lists_and_bools(self):
        cases = (
            (CHAIN, (0, 1, 2), reason(CHAIN, (0, 1, 2))), (CHOICE, (), ("violated", CHOICE[1][0])),
            (CHOICE, (), ("violated", CHOICE[1][1])), (CHOICE, (0, 1), ("smaller", (0,))),
            (CHOICE, (0, 1), ("smaller", (1,))), (CHOICE, (0, 1), ("smaller", ())), ((1, ()), (), ("settled", ())),
            ((1, ((0, (), ()),)), (0,), ("settled", ((0, (), ()),))),
        )
        for book, chosen, thing in cases:
            self.assertIs(shows(book, chosen, thing), True)
            for changed in wrong.with_bools(thing) + wrong.with_lists(thing):
                self.assertIs(shows(book, chosen, changed), False, changed)

    def test_parts_left_out_and_added(self):
        for chosen in ((0, 1, 2), (), (0, 1), (0, 1, 2, 3)):
            thing = reason(CHAIN, chosen)
            for changed in (
                thing[:1], thing[1:], (*thing, ()), (*thing, None), thing[::-1], (thing,), thing[1], thing[0],
                (thing[0], (thing[1],)), (thing[0].upper(), thing[1]), ("", thing[1]), (None, thing[1]),
                (thing[0] + " ", thing[1]), ((thing[0],), thing[1]), (True, thing[1]), (0, thing[1]),
            ):
                self.assertIs(shows(CHAIN, chosen, changed), False, changed)

    def test_words_changed_for_each_other(self):
        words = {"violated", "settled", "smaller"}
        for chosen in ((0, 1, 2), (), (0,), (0, 1, 2, 3)):
            word, shown = reason(CHAIN, chosen)
            for other in words - {word}:
                self.assertIs(shows(CHAIN, chosen, (other, shown)), False)

    def test_values_of_other_kinds(self):
        for book, chosen in ((CHAIN, (0, 1, 2)), (CHOICE, ()), (CHOICE, (0, 1)), ((1, ()), ())):
            for thing in wrong.other_things():
                self.assertIs(shows(book, chosen, thing), False, thing)
                for word in ("violated", "settled", "smaller"):
                    self.assertIs(shows(book, chosen, (word, thing)), False, thing)
                    if type(thing) is not int:
                        self.assertIs(shows(book, chosen, (word, (thing,))), False, thing)


class Errors(Case):
    functions = (is_settled, reason, lambda book, chosen: shows(book, chosen, ("settled", ())))

    def test_book_error(self):
        for function in self.functions:
            for book in wrong.no_rulebooks():
                self.assert_error(BookError, function, book, ())

    def test_set_error(self):
        for function in self.functions:
            for chosen in wrong.no_sets():
                for book in ((3, ()), (3, CHAIN[1][1:4]), (1, ())):
                    self.assert_error(SetError, function, book, chosen)

    def test_set_of_more_atoms(self):
        for function in self.functions:
            for atoms in (1, 2, 3):
                self.assert_error(SetError, function, (atoms, ()), (atoms,))
                function((atoms + 1, ()), (atoms,))

    def test_book_error_if_both_are_wrong(self):
        for function in self.functions:
            for book in wrong.no_rulebooks():
                for chosen in (None, (3,), [0], (True,), (1, 0)):
                    self.assert_error(BookError, function, book, chosen)

    def test_shows_raises_whatever_the_thing_is(self):
        for thing in wrong.other_things():
            self.assert_error(BookError, shows, (5, ()), (), thing)
            self.assert_error(SetError, shows, CHOICE, (2,), thing)


class RulesSettling(Case):
    def assert_settling(self, atoms, sets):
        book = rules_settling(atoms, sets)
        self.assertIs(is_rulebook(book), True)
        self.assertEqual(book[0], atoms)
        self.assertLess(len(book[1]), 100)
        self.assertEqual(oracle.settled(book), sets)
        self.assertEqual(tuple(settled(book)), sets)

    def test_all_families(self):
        for atoms, many in ((1, 3), (2, 6), (3, 20), (4, 168)):
            families = oracle.families(atoms)
            self.assertEqual(len(families), many)
            for sets in families:
                self.assert_settling(atoms, sets)

    def test_no_sets_the_empty_set_and_all_of_one_size(self):
        for atoms in (1, 2, 3, 4):
            self.assert_settling(atoms, ())
            self.assert_settling(atoms, ((),))
            for size in range(atoms + 1):
                self.assert_settling(atoms, tuple(s for s in oracle.all_sets(atoms) if len(s) == size))

    def test_atoms_error_comes_first(self):
        for atoms in wrong.numbers_of_no_atoms():
            for sets in ((), ((),), None, [], ((0,), ()), ((7,),)):
                self.assert_error(AtomsError, rules_settling, atoms, sets)

    def test_order_and_twice(self):
        for sets in (
            ((1,), (0,)), ((0,), (0,)), ((), ()), ((0, 2), (0, 1)), ((0,), (1,), (1,)), ((1, 2), (0,)),
            ((0, 1), (2,), (1, 2)),
        ):
            self.assert_error(SetsError, rules_settling, 3, sets)

    def test_one_within_another_one(self):
        for sets in (
            ((), (0,)), ((), (0, 1, 2)), ((0,), (0, 1)), ((0, 1), (1,)), ((0, 1, 2), (1, 2)), ((0, 1), (0, 2), (2,)),
            ((0, 1, 2), (0, 2)), ((0,), (1,), (1, 2)),
        ):
            self.assertEqual(sets, tuple(sorted(sets)))
            self.assert_error(SetsError, rules_settling, 3, sets)

    def test_all_tuples_of_two_sets(self):
        families = oracle.families(3)
        for sets in product(oracle.all_sets(3), repeat=2):
            if sets in families:
                self.assert_settling(3, sets)
            else:
                self.assert_error(SetsError, rules_settling, 3, sets)

    def test_no_sets_of_the_atoms(self):
        for part in wrong.no_sets():
            for sets in ((part,), (part, (1,)), ((0,), part)):
                self.assert_error(SetsError, rules_settling, 3, sets)
        for atoms in (1, 2, 3):
            self.assert_error(SetsError, rules_settling, atoms, ((atoms,),))
            self.assert_settling(atoms + 1, ((atoms,),))

    def test_lists_bools_and_values_of_other_kinds(self):
        for sets in (((0,), (1,)), ((0, 1), (1, 2)), ((),), ()):
            for changed in wrong.with_lists(sets) + wrong.with_bools(sets):
                self.assert_error(SetsError, rules_settling, 3, changed)
        for thing in [*wrong.other_things(), (0,), (0, 1), ((0,), 1), "0"]:
            self.assert_error(SetsError, rules_settling, 3, thing)


class Calls(Case):
    def test_equal_calls_give_equal_results(self):
        for book in oracle.settling_books(5):
            self.assertEqual(list(settled(book)), list(settled(copy.deepcopy(book))))
            for chosen in oracle.all_sets(book[0]):
                first = reason(book, chosen)
                self.assertEqual(reason(copy.deepcopy(book), copy.deepcopy(chosen)), first)
                self.assertIs(type(first), tuple)
                self.assertIs(type(first[1]), tuple)
        for sets in oracle.families(3):
            self.assertEqual(rules_settling(3, sets), rules_settling(3, copy.deepcopy(sets)))

    def test_arguments_stay_as_they_are(self):
        for thing in (["settled", []], ("settled", [[0, [], []]]), ("smaller", [0]), [[0], [1]], ([0],), {0: [1]}):
            kept = repr(thing)
            self.assertIs(shows(CHOICE, (0,), thing), False)
            self.assert_error(BookError, is_settled, thing, ())
            self.assert_error(BookError, reason, thing, ())
            self.assert_error(SetError, shows, CHOICE, thing, thing)
            self.assert_error(SetsError, rules_settling, 2, thing)
            self.assertEqual(repr(thing), kept)
