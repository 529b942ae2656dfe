"""What holds over several modules, and the example of the overview."""

from itertools import permutations

from defaultswaps.facts import compare_by_facts, settled_with
from defaultswaps.pairs import is_table, pairs, rules_of
from defaultswaps.rules import is_rulebook
from defaultswaps.settled import is_settled, reason, rules_settling, settled, shows
from defaultswaps.swaps import apart, compare, shows_compare
from tests import oracle
from tests.case import Case


def books():
    return oracle.many_books() + oracle.settling_books()


def renamed_set(names, chosen):
    return tuple(sorted(names[atom] for atom in chosen))


def renamed_rule(names, rule):
    head, holds, fails = rule
    return (None if head is None else names[head], renamed_set(names, holds), renamed_set(names, fails))


class Overview(Case):
    def test_example(self):
        one = (2, ((0, (), (1,)),))
        other = (2, ((0, (), ()),))
        self.assertEqual([list(settled(one)), list(settled(other))], [[(0,)], [(0,)]])
        self.assertEqual(pairs(other), (((0,), (0,)), ((0,), (0, 1)), ((0, 1), (0, 1))))
        self.assertEqual(compare(one, other), ("differ", (2, ((0, (1,), ()), (1, (0,), ()))), (0, 1)))
        self.assertEqual(compare_by_facts(one, other), ("differ", (1,), (0, 1)))


class SettledSets(Case):
    def test_none_is_within_another_one(self):
        for book in books():
            found = list(settled(book))
            for one in found:
                for other in found:
                    self.assertIs(set(one) <= set(other), one == other)

    def test_rules_settling_takes_what_settled_lists(self):
        for book in books():
            found = tuple(settled(book))
            self.assertEqual(tuple(settled(rules_settling(book[0], found))), found)

    def test_the_rules_for_the_pairs_have_the_settled_sets(self):
        for book in books():
            found = pairs(book)
            self.assertIs(is_table(book[0], found), True)
            self.assertEqual(tuple(settled(rules_of(book[0], found))), tuple(settled(book)))
            self.assertEqual(compare(book, rules_of(book[0], found)), ("same", found))

    def test_a_set_is_settled_if_its_reason_says_so(self):
        for book in books():
            for chosen in oracle.all_sets(book[0]):
                word, shown = reason(book, chosen)
                self.assertIs(word == "settled", is_settled(book, chosen))
                self.assertIs(shows(book, chosen, ("settled", shown)), is_settled(book, chosen))

    def test_with_facts_as_with_a_context(self):
        for book in oracle.settling_books(10):
            for given in oracle.all_sets(book[0]):
                context = oracle.facts(book[0], given)
                only, _ = apart(book, (book[0], ((None, (), ()),)), context)
                self.assertEqual(settled_with(book, given), only)


class Swapped(Case):
    def test_every_context_for_one_atom(self):
        found = oracle.books_of_one_atom()
        for context in found:
            by_table = {}
            for book in found[::3]:
                sets = tuple(settled(oracle.union(book, context)))
                self.assertEqual(by_table.setdefault(pairs(book), sets), sets)

    def test_many_contexts_for_more_atoms(self):
        contexts = oracle.settling_books(8)
        for one, other in oracle.alike_books(8):
            if compare(one, other)[0] == "same":
                for context in contexts:
                    if context[0] == one[0]:
                        self.assertEqual(apart(one, other, context), ((), ()))
                        for chosen in oracle.all_sets(one[0]):
                            self.assertIs(shows_compare(one, other, ("differ", context, chosen)), False)
                self.assertEqual(compare_by_facts(one, other)[0], "same")

    def test_a_difference_is_found_by_apart(self):
        for one, other in oracle.alike_books():
            found = compare(one, other)
            if found[0] == "differ":
                first, second = apart(one, other, found[1])
                self.assertEqual((found[2] in first) + (found[2] in second), 1)

    def test_a_difference_by_facts_is_one_by_a_context(self):
        for one, other in oracle.alike_books():
            found = compare_by_facts(one, other)
            if found[0] == "differ":
                context = oracle.facts(one[0], found[1])
                self.assertIs(shows_compare(one, other, ("differ", context, found[2])), True)
                self.assertEqual(compare(one, other)[0], "differ")


class Renamed(Case):
    def test_settled_sets_and_pairs_are_renamed(self):
        for book in oracle.settling_books(10) + oracle.sample_books(6):
            atoms, rules = book
            for names in permutations(range(atoms)):
                other = (atoms, tuple(renamed_rule(names, rule) for rule in rules))
                self.assertIs(is_rulebook(other), True)
                self.assertEqual(list(settled(other)), sorted(renamed_set(names, y) for y in settled(book)))
                self.assertEqual(
                    pairs(other), tuple(sorted((renamed_set(names, x), renamed_set(names, y)) for x, y in pairs(book))),
                )
