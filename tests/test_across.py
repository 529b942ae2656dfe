"""What holds over several modules, and the example of the overview."""

from itertools import permutations

from defaultswaps.desk import Desk
from defaultswaps.errors import AtomError, AtomsError, BookError, MatchError, NumberError, RuleError
from defaultswaps.errors import SetError, SetsError, TableError, TextError
from defaultswaps.facts import compare_by_facts, kernel, settled_with, shows_by_facts
from defaultswaps.objects import Choice, Facts, Round, Rules, Start
from defaultswaps.pairs import fits, is_table, pairs, rules_of, tables
from defaultswaps.rules import is_rule, is_rulebook, least, remaining, violated
from defaultswaps.settled import is_settled, reason, rules_settling, settled, shows
from defaultswaps.swaps import apart, compare, shows_compare
from defaultswaps.texts import book_text, read_book
from defaultswaps.tidy import counter, is_tidy, needless, tidy
from tests import oracle, wrong
from tests.case import Case


def books():
    return oracle.many_books() + oracle.settling_books()


def renamed_set(names, chosen):
    return tuple(sorted(names[atom] for atom in chosen))


def renamed_rule(names, rule):
    head, holds, fails = rule
    return (None if head is None else names[head], renamed_set(names, holds), renamed_set(names, fails))


class Overview(Case):
    def test_example(self):
        one = (2, ((0, (), (1,)),))
        other = (2, ((0, (), ()),))
        self.assertEqual([list(settled(one)), list(settled(other))], [[(0,)], [(0,)]])
        self.assertEqual(pairs(other), (((0,), (0,)), ((0,), (0, 1)), ((0, 1), (0, 1))))
        self.assertEqual(compare(one, other), ("differ", (2, ((0, (1,), ()), (1, (0,), ()))), (0, 1)))
        self.assertEqual(compare_by_facts(one, other), ("differ", (1,), (0, 1)))


class SettledSets(Case):
    def test_none_is_within_another_one(self):
        for book in books():
            found = list(settled(book))
            for one in found:
                for other in found:
                    self.assertIs(set(one) <= set(other), one == other)

    def test_rules_settling_takes_what_settled_lists(self):
        for book in books():
            found = tuple(settled(book))
            self.assertEqual(tuple(settled(rules_settling(book[0], found))), found)

    def test_the_rules_for_the_pairs_have_the_settled_sets(self):
        for book in books():
            found = pairs(book)
            self.assertIs(is_table(book[0], found), True)
            self.assertEqual(tuple(settled(rules_of(book[0], found))), tuple(settled(book)))
            self.assertEqual(compare(book, rules_of(book[0], found)), ("same", found))

    def test_a_set_is_settled_if_its_reason_says_so(self):
        for book in books():
            for chosen in oracle.all_sets(book[0]):
                word, shown = reason(book, chosen)
                self.assertIs(word == "settled", is_settled(book, chosen))
                self.assertIs(shows(book, chosen, ("settled", shown)), is_settled(book, chosen))

    def test_with_facts_as_with_a_context(self):
        for book in oracle.settling_books(10):
            for given in oracle.all_sets(book[0]):
                context = oracle.facts(book[0], given)
                only, _ = apart(book, (book[0], ((None, (), ()),)), context)
                self.assertEqual(settled_with(book, given), only)


class Swapped(Case):
    def test_every_context_for_one_atom(self):
        found = oracle.books_of_one_atom()
        for context in found:
            by_table = {}
            for book in found[::3]:
                sets = tuple(settled(oracle.union(book, context)))
                self.assertEqual(by_table.setdefault(pairs(book), sets), sets)

    def test_many_contexts_for_more_atoms(self):
        contexts = oracle.settling_books(8)
        for one, other in oracle.alike_books(8):
            if compare(one, other)[0] == "same":
                for context in contexts:
                    if context[0] == one[0]:
                        self.assertEqual(apart(one, other, context), ((), ()))
                        for chosen in oracle.all_sets(one[0]):
                            self.assertIs(shows_compare(one, other, ("differ", context, chosen)), False)
                self.assertEqual(compare_by_facts(one, other)[0], "same")

    def test_a_difference_is_found_by_apart(self):
        for one, other in oracle.alike_books():
            found = compare(one, other)
            if found[0] == "differ":
                first, second = apart(one, other, found[1])
                self.assertEqual((found[2] in first) + (found[2] in second), 1)

    def test_a_difference_by_facts_is_one_by_a_context(self):
        for one, other in oracle.alike_books():
            found = compare_by_facts(one, other)
            if found[0] == "differ":
                context = oracle.facts(one[0], found[1])
                self.assertIs(shows_compare(one, other, ("differ", context, found[2])), True)
                self.assertEqual(compare(one, other)[0], "differ")


class Renamed(Case):
    def test_settled_sets_and_pairs_are_renamed(self):
        for book in oracle.settling_books(10) + oracle.sample_books(6):
            atoms, rules = book
            for names in permutations(range(atoms)):
                other = (atoms, tuple(renamed_rule(names, rule) for rule in rules))
                self.assertIs(is_rulebook(other), True)
                self.assertEqual(list(settled(other)), sorted(renamed_set(names, y) for y in settled(book)))
                self.assertEqual(
                    pairs(other), tuple(sorted((renamed_set(names, x), renamed_set(names, y)) for x, y in pairs(book))),
                )


class Tidied(Case):
    def test_a_tidied_rulebook_can_be_swapped_for_the_one_it_came_from(self):
        for book in books():
            found = tidy(book)
            self.assertIs(is_rulebook(found), True)
            self.assertEqual(compare(book, found), ("same", pairs(book)))
            self.assertIs(Desk(book).swapped(found), True)
            self.assertIs(Rules.of(found).swaps(Rules.of(book)), True)
            self.assertEqual(compare_by_facts(book, found)[0], "same")

    def test_what_was_put_in_and_follows_is_left_out(self):
        for book in oracle.settling_books(10):
            atoms, rules = tidy(book)
            for rule in oracle.all_rules(atoms)[::5]:
                if rule not in rules and counter((atoms, rules), rule) is None:
                    self.assertIs(is_tidy((atoms, (*rules, rule))), False)
                    self.assertIn(rule, needless((atoms, (*rules, rule))))


class AtADesk(Case):
    def test_an_added_rule_lets_the_book_be_swapped_if_it_follows(self):
        answers = set()
        for book in oracle.settling_books(12) + oracle.sample_books(3):
            rules = [rule for rule in oracle.all_rules(book[0]) if rule not in book[1]]
            for rule in rules[::1 + len(rules) // 20]:
                desk = Desk(book)
                if len(book[1]) < 100:
                    desk.add(rule)
                    self.assertIs(desk.swapped(book), counter(book, rule) is None)
                    answers.add(desk.swapped(book))
        self.assertEqual(answers, {True, False})

    def test_a_dropped_rule_lets_the_book_be_swapped_if_it_is_needless(self):
        answers = set()
        for book in oracle.settling_books() + oracle.sample_books(3):
            for rule in book[1][:15]:
                desk = Desk(book)
                desk.drop(rule)
                self.assertIs(desk.swapped(book), rule in needless(book))
                answers.add(desk.swapped(book))
        self.assertEqual(answers, {True, False})

    def test_from_book_to_book_by_changes(self):
        for book in oracle.settling_books(6):
            desk = Desk((book[0], ()))
            for rule in book[1]:
                desk.add(rule)
            self.assertEqual(desk.book, book)
            self.assertEqual(desk.settled, tuple(settled(book)))
            self.assertEqual(Desk((book[0], ())).settled_supposing(*book[1]), desk.settled)


class Texts(Case):
    def test_the_text_of_a_book_gives_the_book(self):
        for book in books():
            self.assertEqual(read_book(book_text(book)), book)
            self.assertEqual(Rules.read(book_text(book)).plain, book)
            self.assertEqual(book_text(read_book(book_text(book))), book_text(book))

    def test_what_other_calls_return(self):
        for one, other in oracle.alike_books(5):
            found = compare(one, other)
            for book in (tidy(one), rules_of(one[0], pairs(other)), *([found[1]] if found[0] == "differ" else [])):
                self.assertEqual(read_book(book_text(book)), book)


class AsObjects(Case):
    def test_a_union_has_the_settled_sets_of_the_union(self):
        for one in oracle.settling_books(6):
            for other in oracle.settling_books(6):
                if one[0] == other[0]:
                    both = Rules.of(one) | Rules.of(other)
                    self.assertEqual(tuple(settled(both.plain)), oracle.settled(oracle.union(one, other)))
                    self.assertEqual(both(()), oracle.settled(oracle.union(one, other)))
                    only, _ = apart(one, (one[0], ((None, (), ()),)), other)
                    self.assertEqual(both(()), only)

    def test_a_call_is_the_union_with_the_facts(self):
        for book in oracle.settling_books(8):
            rules = Rules.of(book)
            for chosen in oracle.all_sets(book[0]):
                found = rules(chosen)
                self.assertEqual(found, settled_with(book, chosen))
                self.assertEqual(found, (rules | Facts(book[0], *chosen))(()))
                self.assertEqual(found, (rules | Start(book[0], facts=chosen))(()))
                self.assertEqual(found, Desk(book).settled_supposing(*Facts(book[0], *chosen).plain[1]))

    def test_swaps_agrees_with_compare(self):
        for one, other in oracle.alike_books(6):
            first, second = Rules.of(one), Rules.of(other)
            self.assertIs(first.swaps(second), compare(first.plain, second.plain)[0] == "same")

    def test_the_context_of_compare_is_a_start(self):
        starts = 0
        for one, other in oracle.alike_books(6):
            found = compare(one, other)
            if found[0] == "differ":
                x, y = min(set(pairs(one)) ^ set(pairs(other)))
                if ((y, y) in pairs(one)) == ((y, y) in pairs(other)):
                    start = Start(one[0], *(atom for atom in y if atom not in x), facts=x)
                    self.assertEqual(found[1], start.plain)
                    starts += 1
        self.assertGreater(starts, 10)

    def test_equal_rules_can_be_swapped(self):
        for book in books():
            turned = (book[0], book[1][::-1])
            self.assertEqual(Rules.of(book), Rules.of(turned))
            self.assertIs(Rules.of(book).swaps(Rules.of(turned)), True)
        self.assertIs(Choice(3, 0, 2).swaps(Choice(3, 2, 0)), True)
        self.assertIs(Round(3, 0, 2).swaps(Start(3, 2, 0)), True)


class ObjectsInPlaceOfValues(Case):
    """Where any value is allowed, it may be an object of the package, alone or as a part of others."""

    def test_functions_that_tell(self):
        one, other = (2, ((0, (), (1,)),)), (2, ((0, (), ()),))
        table = pairs(other)
        for good, tell in (
            (one, is_rulebook), ((0, (1,), (0, 1)), lambda thing: is_rule(2, thing)),
            (table[0], lambda thing: fits(other, thing)), (table, lambda thing: is_table(2, thing)),
            (reason(one, ()), lambda thing: shows(one, (), thing)),
            (reason(one, (0,)), lambda thing: shows(one, (0,), thing)),
            (reason(one, (0, 1)), lambda thing: shows(one, (0, 1), thing)),
            (compare(one, other), lambda thing: shows_compare(one, other, thing)),
            (compare(one, one), lambda thing: shows_compare(one, one, thing)),
            (compare_by_facts(one, other), lambda thing: shows_by_facts(one, other, thing)),
            (compare_by_facts(one, one), lambda thing: shows_by_facts(one, one, thing)),
            ((0, (), (1,)), lambda thing: thing in Rules.of(one)),
            ((0, (), ()), lambda thing: thing in Start(2, 1, facts=(0,))),
        ):
            self.assertIs(tell(good), True)
            for thing in wrong.with_objects(good) + wrong.things_with_objects():
                self.assertIs(tell(thing), False)
                self.assertIs(tell([thing]), False)
                self.assertIs(tell({"a": thing}), False)

    def test_equality_with_objects(self):
        for thing in wrong.things_with_objects() + [(Rules(2),), [Rules(2)], {0: Rules(2)}]:
            self.assertIs(Rules(2) == thing, False)
            self.assertIs(thing == Rules(2), False)

    def test_functions_that_raise(self):
        book = (2, ((0, (), (1,)),))
        rules = Rules.of(book)
        desk = Desk(book)
        for thing in wrong.things_with_objects():
            for error, calls in {
                BookError: (
                    lambda: remaining(thing, ()), lambda: violated(thing, ()), lambda: least(thing, ()),
                    lambda: list(settled(thing)), lambda: is_settled(thing, ()), lambda: reason(thing, ()),
                    lambda: shows(thing, (), ()), lambda: pairs(thing), lambda: fits(thing, ()),
                    lambda: compare(thing, book), lambda: compare(book, thing), lambda: apart(book, book, thing),
                    lambda: shows_compare(book, thing, ()), lambda: kernel(thing),
                    lambda: compare_by_facts(thing, book), lambda: shows_by_facts(book, thing, ()),
                    lambda: settled_with(thing, ()),
                    lambda: counter(thing, (0, (), ())), lambda: needless(thing), lambda: tidy(thing),
                    lambda: is_tidy(thing), lambda: book_text(thing), lambda: Rules.of(thing), lambda: Desk(thing),
                    lambda: desk.assign_book(thing), lambda: setattr(desk, "book", thing), lambda: desk.swapped(thing),
                ),
                AtomsError: (
                    lambda: is_rule(thing, ()), lambda: is_table(thing, ()), lambda: rules_of(thing, ()),
                    lambda: list(tables(thing)), lambda: rules_settling(thing, ()), lambda: Rules(thing),
                    lambda: Facts(thing), lambda: Round(thing), lambda: Choice(thing, 0, 1), lambda: Start(thing),
                ),
                SetError: (
                    lambda: remaining(book, thing), lambda: violated(book, thing), lambda: least(book, thing),
                    lambda: is_settled(book, thing), lambda: reason(book, thing), lambda: shows(book, thing, ()),
                    lambda: settled_with(book, thing), lambda: rules(thing), lambda: Start(2, facts=thing),
                ),
                SetsError: (lambda: rules_settling(2, thing),),
                TableError: (lambda: rules_of(2, thing),),
                RuleError: (
                    lambda: counter(book, thing), lambda: Rules(2, thing), lambda: desk.add(thing),
                    lambda: desk.drop(thing), lambda: desk.supposing(thing), lambda: desk.settled_supposing(thing),
                ),
                TextError: (lambda: read_book(thing), lambda: Rules.read(thing)),
                AtomError: (
                    lambda: Rules.fact(thing), lambda: Facts(2, thing), lambda: Round(2, 0, thing),
                    lambda: Choice(2, thing, 0), lambda: Choice(2, 0, thing), lambda: Start(2, thing),
                ),
                NumberError: (lambda: rules[thing],),
            }.items():
                for call in calls:
                    self.assert_error(error, call)
        self.assertEqual((desk.book, desk.changes), (book, 0))

    def test_rules_beside_other_objects(self):
        rules = Rules(3, (0, (), ()))
        for thing in wrong.things_with_objects():
            error = MatchError if isinstance(thing, Rules) else BookError
            self.assert_error(error, lambda: rules | thing)
            self.assert_error(error, lambda: rules - thing)
            self.assert_error(error, rules.swaps, thing)
