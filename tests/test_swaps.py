import copy
from itertools import permutations

from defaultswaps import swaps as module
from defaultswaps.errors import BookError, MatchError
from defaultswaps.pairs import pairs
from defaultswaps.rules import is_rulebook
from defaultswaps.swaps import apart, compare, shows_compare, union
from tests import oracle, wrong
from tests.case import Case

# The example of the overview.
ONE = (2, ((0, (), (1,)),))
OTHER = (2, ((0, (), ()),))
# The same pairs fit: what the second rule says follows from the first one.
PLAIN = (3, ((0, (), (1,)), (2, (0,), ())))
PADDED = (3, ((2, (0,), ()), (0, (2,), (1,)), (0, (), (1,)), (1, (1,), ())))


def tables_for_two():
    return [oracle.rules_of(2, table) for table in oracle.tables(2)]


def long_books():
    """Two rulebooks and a context, each of 100 rules; the unions have far more."""
    one = oracle.book_keeping(100, 1, (0, 1), (0, 2))
    other = oracle.book_keeping(100, 2, (0, 1), (1, 2, 3))
    context = oracle.book_keeping(100, 3, (0, 1), (0, 2), (1, 2, 3))
    return one, other, context


class Interface(Case):
    def test_names_and_arguments(self):
        self.assert_interface(module, {
            "compare": ["one", "other"], "shows_compare": ["one", "other", "thing"],
            "apart": ["one", "other", "context"],
        })


class Union(Case):
    def test_the_rules_of_the_first_and_then_the_others(self):
        zero, one, two = (0, (), ()), (1, (), ()), (2, (), ())
        self.assertEqual(union((two, zero), (one, zero)), (two, zero, one))
        self.assertEqual(union((), (two, one)), (two, one))
        self.assertEqual(union((one, two), (two, one)), (one, two))
        every = tuple(oracle.all_rules(4))
        self.assertEqual(union(every[:100], every[50:150]), every[:150])

    def test_each_rule_once(self):
        zero, one, two = (0, (), ()), (1, (), ()), (2, (), ())
        self.assertEqual(union((two,), (one, zero, one, two, zero)), (two, one, zero))


class Compare(Case):
    def test_example_of_the_overview(self):
        expected = ("differ", (2, ((0, (1,), ()), (1, (0,), ()))), (0, 1))
        self.assertEqual(compare(ONE, OTHER), expected)
        self.assertEqual(compare(OTHER, ONE), expected)

    def test_same(self):
        self.assertEqual(compare(OTHER, OTHER), ("same", (((0,), (0,)), ((0,), (0, 1)), ((0, 1), (0, 1)))))
        self.assertEqual(compare((1, ((None, (), ()),)), (1, ((0, (), (0,)), (None, (0,), ())))), ("same", ()))
        self.assertEqual(compare(PLAIN, PADDED), ("same", oracle.pairs(PLAIN)))

    def test_the_same_rules_in_another_order(self):
        for order in permutations(PADDED[1]):
            self.assertEqual(compare(PADDED, (3, order)), ("same", oracle.pairs(PADDED)))

    def test_the_first_pair_is_a_set_with_itself(self):
        self.assertEqual(
            compare(OTHER, (2, ((0, (), ()), (None, (0,), (1,))))), ("differ", (2, ((0, (), ()),)), (0,)),
        )
        self.assertEqual(compare((2, ()), (2, ((None, (), ()),))), ("differ", (2, ()), ()))
        self.assertEqual(compare((1, ((None, (), (0,)),)), (1, ())), ("differ", (1, ()), ()))

    def test_facts_of_the_larger_set_although_the_first_pair_is_another_one(self):
        # ((), (0, 1)) is the first pair, and (0, 1) with itself fits only one of them, too.
        self.assertEqual(
            compare((3, ()), (3, ((None, (0, 1), ()),))), ("differ", (3, ((0, (), ()), (1, (), ()))), (0, 1)),
        )

    def test_facts_of_the_smaller_set_and_the_rules_behind_them(self):
        # The first pair is ((0,), (0, 1, 2, 3)): facts of 0, and all rules among 1, 2 and 3.
        one = (4, ((0, (), ()), (None, (), (1,)), (None, (), (2,)), (None, (), (3,))))
        other = (4, (*one[1], (1, (0,), ())))
        self.assertEqual(oracle.compare(one, other)[2], (0, 1, 2, 3))
        self.assertEqual(compare(one, other), ("differ", (4, (
            (0, (), ()), (1, (2,), ()), (1, (3,), ()), (2, (1,), ()), (2, (3,), ()), (3, (1,), ()), (3, (2,), ()),
        )), (0, 1, 2, 3)))

    def test_a_single_atom_outside_needs_no_rules(self):
        one = (2, ((0, (), ()), (1, (0,), (1,))))
        other = (2, ((0, (), ()), (1, (0,), ())))
        self.assertEqual(compare(one, other), ("differ", (2, ((0, (), ()),)), (0, 1)))

    def test_pair_by_pair_against_the_words(self):
        kinds = set()
        for one, other in oracle.alike_books():
            found = compare(one, other)
            self.assertEqual(found, oracle.compare(one, other))
            self.assertEqual(compare(other, one), found)
            if found[0] == "differ":
                y = found[2]
                kinds.add(oracle.fits(one, (y, y)) != oracle.fits(other, (y, y)))
                self.assertIs(is_rulebook(found[1]), True)
                self.assertIs(oracle.differ(one, other, found[1], y), True)
        self.assertEqual(kinds, {True, False})

    def test_all_tables_for_two_atoms(self):
        books = tables_for_two()
        for one in books:
            for other in books:
                found = compare(one, other)
                self.assertEqual(found, oracle.compare(one, other))
                self.assertIs(found[0] == "same", one == other)
                self.assertIs(shows_compare(one, other, found), True)

    def test_a_rule_left_out_or_added(self):
        words = set()
        for one in oracle.settling_books(10):
            for at in range(len(one[1])):
                other = (one[0], one[1][:at] + one[1][at + 1:])
                found = compare(one, other)
                self.assertEqual(found, oracle.compare(one, other))
                self.assertEqual(compare(other, one), found)
                self.assertIs(shows_compare(one, other, found), True)
                words.add(found[0])
        self.assertEqual(words, {"same", "differ"})

    def test_hundred_rules(self):
        one, other, context = long_books()
        for first, second in ((one, other), (one, context), (other, context), (one, one)):
            self.assertEqual(compare(first, second), oracle.compare(first, second))

    def test_no_rules(self):
        for atoms in (1, 2, 3, 4):
            self.assertEqual(compare((atoms, ()), (atoms, ())), ("same", tuple(oracle.all_pairs(atoms))))
            for rule in oracle.all_rules(atoms):
                self.assertEqual(compare((atoms, ()), (atoms, (rule,))), oracle.compare((atoms, ()), (atoms, (rule,))))


class ShowsCompare(Case):
    def test_what_compare_returns(self):
        for one, other in oracle.alike_books():
            self.assertIs(shows_compare(one, other, compare(one, other)), True)

    def test_any_context_for_one_atom(self):
        books = [oracle.rules_of(1, table) for table in oracle.tables(1)] + [(1, ((0, (), (0,)), (0, (), ())))]
        answers = {True: 0, False: 0}
        for one in books:
            for other in books:
                for context in oracle.books_of_one_atom():
                    for chosen in ((), (0,)):
                        found = shows_compare(one, other, ("differ", context, chosen))
                        self.assertIs(found, oracle.differ(one, other, context, chosen))
                        answers[found] += 1
        self.assertGreater(min(answers.values()), 100)

    def test_any_context_for_more_atoms(self):
        contexts = oracle.settling_books(5) + oracle.sample_books(3)
        answers = {True: 0, False: 0}
        for one, other in oracle.alike_books(4):
            for context in contexts:
                for chosen in oracle.all_sets(context[0]):
                    expected = context[0] == one[0] and oracle.differ(one, other, context, chosen)
                    self.assertIs(shows_compare(one, other, ("differ", context, chosen)), expected)
                    answers[expected] += 1
        self.assertGreater(min(answers.values()), 100)

    def test_long_contexts(self):
        one, other, context = long_books()
        for chosen in oracle.all_sets(4):
            expected = chosen in ((0, 2), (1, 2, 3))
            self.assertIs(shows_compare(one, other, ("differ", context, chosen)), expected)

    def test_same_only_with_the_pairs_of_both(self):
        table = pairs(PLAIN)
        self.assertIs(shows_compare(PLAIN, PADDED, ("same", table)), True)
        for changed in (table[1:], table[:-1], table[::-1], table + table[:1], (*table[:1], *table), (), (table,)):
            self.assertIs(shows_compare(PLAIN, PADDED, ("same", changed)), False)
        for at, pair in enumerate(table):
            self.assertIs(shows_compare(PLAIN, PADDED, ("same", table[:at] + table[at + 1:])), False)
        self.assertIs(shows_compare((1, ((None, (), ()),)), (1, ((None, (), ()),)), ("same", ())), True)

    def test_same_for_rulebooks_that_differ(self):
        books = tables_for_two()
        for one in books:
            for other in books:
                for table in (pairs(one), pairs(other), tuple(sorted(set(pairs(one)) & set(pairs(other))))):
                    self.assertIs(shows_compare(one, other, ("same", table)), one == other)

    def test_context_for_other_atoms(self):
        self.assertIs(shows_compare(ONE, OTHER, ("differ", (2, ((1, (), ()),)), (0, 1))), True)
        for atoms in (1, 3, 4):
            for rules in ((), ((0, (), ()),)):
                self.assertIs(shows_compare(ONE, OTHER, ("differ", (atoms, rules), (0, 1))), False)
        self.assertIs(shows_compare(ONE, OTHER, ("differ", (3, ((1, (), ()),)), (0, 1))), False)

    def test_context_that_is_no_rulebook(self):
        for context in [*wrong.no_rulebooks(), (2, ((1, (), ()), (1, (), ())))]:
            self.assertIs(shows_compare(ONE, OTHER, ("differ", context, (0, 1))), False)
        long = (4, (*oracle.all_rules(4)[:100], oracle.all_rules(4)[200]))
        for chosen in oracle.all_sets(4):
            self.assertIs(shows_compare((4, ()), (4, ((0, (), ()),)), ("differ", long, chosen)), False)

    def test_chosen_that_is_no_set(self):
        for chosen in [*wrong.no_sets(), (0, 2), (2,), (0, 1, 2), (1, 0), [0, 1]]:
            self.assertIs(shows_compare(ONE, OTHER, ("differ", (2, ((1, (), ()),)), chosen)), False)

    def test_lists_and_bools(self):
        for one, other in ((ONE, OTHER), (PLAIN, PADDED), (PLAIN, (3, ())), (OTHER, OTHER)):
            thing = compare(one, other)
            self.assertIs(shows_compare(one, other, thing), True)
            for changed in wrong.with_bools(thing) + wrong.with_lists(thing):
                self.assertIs(shows_compare(one, other, changed), False, changed)

    def test_wrong_forms(self):
        for one, other in ((ONE, OTHER), (PLAIN, PADDED), (OTHER, OTHER)):
            thing = compare(one, other)
            for changed in (
                (), thing[:1], thing[1:], thing[:-1], thing[::-1], (*thing, ()), (*thing, None), (thing,),
                (thing[0].upper(), *thing[1:]), (None, *thing[1:]), ("", *thing[1:]), (True, *thing[1:]),
                ("same", *thing[1:], thing[-1]), ("differ", thing[1]), ("differ", thing[-1], thing[1]),
                ((thing[0],), *thing[1:]), ("differ ", *thing[1:]),
            ):
                self.assertIs(shows_compare(one, other, changed), False, changed)
        self.assertIs(shows_compare(ONE, OTHER, ("same", *compare(ONE, OTHER)[1:])), False)
        self.assertIs(shows_compare(PLAIN, PADDED, ("differ", pairs(PLAIN))), False)

    def test_values_of_other_kinds(self):
        for one, other in ((ONE, OTHER), (PLAIN, PADDED), ((1, ()), (1, ()))):
            for thing in [*wrong.other_things(), ()]:
                for changed in (thing, ("same", thing), ("same", (thing,)), ("differ", thing, (0,)),
                                ("differ", (one[0], ()), thing), (thing, pairs(one)), (thing, (one[0], ()), ())):
                    self.assertIs(shows_compare(one, other, changed), False, changed)


class Apart(Case):
    def test_ordinary_rulebooks(self):
        self.assertEqual(apart(ONE, OTHER, (2, ())), ((), ()))
        self.assertEqual(apart(ONE, OTHER, (2, ((1, (), ()),))), (((1,),), ((0, 1),)))
        self.assertEqual(apart(OTHER, ONE, (2, ((1, (), ()),))), (((0, 1),), ((1,),)))
        self.assertEqual(apart(ONE, OTHER, (2, ((0, (1,), ()), (1, (0,), ())))), ((), ((0, 1),)))
        choice = ((0, (), (2,)), (2, (), (0,)), (1, (), (3,)), (3, (), (1,)))
        self.assertEqual(
            apart((4, choice), (4, ((0, (), ()),)), (4, ())), (((0, 1), (0, 3), (1, 2), (2, 3)), ((0,),)),
        )

    def test_search(self):
        filled = 0
        contexts = oracle.settling_books(6) + oracle.sample_books(3)
        for one, other in oracle.alike_books(6):
            for context in contexts:
                if context[0] == one[0]:
                    found = apart(one, other, context)
                    self.assertEqual(found, oracle.apart(one, other, context))
                    self.assertEqual(apart(other, one, context), found[::-1])
                    filled += found != ((), ())
        self.assertGreater(filled, 50)

    def test_ascending_whatever_the_order_of_the_rules(self):
        rules = tuple((a, (), tuple(b for b in range(4) if b != a)) for a in range(4))
        for order in permutations(rules):
            self.assertEqual(apart((4, order), (4, ()), (4, ())), (((0,), (1,), (2,), (3,)), ((),)))

    def test_unions_of_more_than_hundred_rules(self):
        one, other, context = long_books()
        for book in (one, other):
            self.assertGreater(len(oracle.union(book, context)[1]), 130)
        self.assertEqual(apart(one, other, context), (((0, 2),), ((1, 2, 3),)))
        self.assertEqual(apart(other, one, context), (((1, 2, 3),), ((0, 2),)))
        self.assertEqual(apart(one, context, other), oracle.apart(one, context, other))
        self.assertEqual(apart(context, one, one), oracle.apart(context, one, one))

    def test_a_union_of_hundred_and_one_rules(self):
        one = oracle.book_keeping(100, 1, (0, 1), (0, 2))
        self.assertEqual(apart(one, one, (4, ((None, (0, 2), (3,)),))), ((), ()))
        self.assertEqual(
            apart(one, (4, ()), (4, ((None, (0, 2), (3,)), (None, (0, 1, 2, 3), ())))), (((0, 1),), ((),)),
        )


class Errors(Case):
    def test_book_error(self):
        for book in wrong.no_rulebooks():
            self.assert_error(BookError, compare, book, ONE)
            self.assert_error(BookError, compare, ONE, book)
            self.assert_error(BookError, compare, book, book)
            self.assert_error(BookError, shows_compare, book, ONE, ("same", ()))
            self.assert_error(BookError, shows_compare, ONE, book, None)
            self.assert_error(BookError, apart, book, ONE, ONE)
            self.assert_error(BookError, apart, ONE, book, ONE)
            self.assert_error(BookError, apart, ONE, ONE, book)

    def test_match_error(self):
        for atoms in (1, 2, 3, 4):
            for others in (1, 2, 3, 4):
                if atoms != others:
                    self.assert_error(MatchError, compare, (atoms, ()), (others, ()))
                    self.assert_error(MatchError, shows_compare, (atoms, ()), (others, ()), ("same", ()))
                    self.assert_error(MatchError, apart, (atoms, ()), (others, ()), (atoms, ()))
                    self.assert_error(MatchError, apart, (others, ()), (atoms, ()), (atoms, ()))
                    self.assert_error(MatchError, apart, (atoms, ()), (atoms, ()), (others, ()))
        self.assert_error(MatchError, apart, (1, ()), (2, ()), (3, ()))

    def test_book_error_comes_first(self):
        for book in wrong.no_rulebooks():
            self.assert_error(BookError, apart, (1, ()), (2, ()), book)
            self.assert_error(BookError, apart, (1, ()), book, (2, ()))
            self.assert_error(BookError, apart, book, (1, ()), (2, ()))
        self.assert_error(BookError, compare, (5, ()), (2, ()))
        self.assert_error(BookError, compare, (2, ()), (5, ()))

    def test_shows_compare_raises_whatever_the_thing_is(self):
        for thing in wrong.other_things():
            self.assert_error(BookError, shows_compare, ONE, (0, ()), thing)
            self.assert_error(MatchError, shows_compare, ONE, PLAIN, thing)


class Calls(Case):
    def test_equal_calls_give_equal_results(self):
        for one, other in oracle.alike_books(3):
            first = compare(one, other)
            self.assertIs(type(first), tuple)
            self.assertEqual(compare(copy.deepcopy(one), copy.deepcopy(other)), first)
            found = apart(one, other, one)
            self.assertEqual([type(part) for part in (found, *found)], [tuple, tuple, tuple])
            self.assertEqual(apart(*copy.deepcopy((one, other, one))), found)

    def test_arguments_stay_as_they_are(self):
        for thing in (["same", []], ("same", [[[], []]]), ("differ", [2, []], [0]), ("differ", (2, []), ()), {0: [1]}):
            kept = repr(thing)
            self.assertIs(shows_compare(ONE, OTHER, thing), False)
            self.assert_error(BookError, compare, ONE, thing)
            self.assert_error(BookError, apart, ONE, OTHER, thing)
            self.assertEqual(repr(thing), kept)
