import copy
import inspect
import random
import unittest
from itertools import permutations

from defaultswaps import pairs as module
from defaultswaps.errors import AtomsError, BookError, LimitError, SwapError, TableError
from defaultswaps.pairs import fits, is_table, pairs, rules_of, tables
from defaultswaps.rules import is_rulebook
from tests import oracle, wrong

# Each breaks one of the three conditions of [31] and keeps the other two.
NO_TOP = (((), (0,)),)
NO_LARGER = (((), ()), ((0,), (0,)))
NO_COMMON = (((0,), (0, 1)), ((0, 1), (0, 1)), ((1,), (0, 1)))

TABLES_FOR_ONE = [
    (),
    (((), ()),),
    (((), ()), ((), (0,)), ((0,), (0,))),
    (((), (0,)), ((0,), (0,))),
    (((0,), (0,)),),
]


def sample_tables():
    """Tables for three and four atoms, short ones and long ones."""
    return [(book[0], oracle.pairs(book)) for book in oracle.sample_books() if book[0] > 2]


class Interface(unittest.TestCase):
    def test_names_and_arguments(self):
        expected = {
            "pairs": ["book"], "fits": ["book", "thing"], "is_table": ["atoms", "thing"],
            "rules_of": ["atoms", "table"], "tables": ["atoms"],
        }
        for name, arguments in expected.items():
            function = getattr(module, name)
            self.assertEqual(list(inspect.signature(function).parameters), arguments)
            self.assertEqual(function.__module__, "defaultswaps.pairs")
        self.assertTrue(inspect.isgenerator(tables(1)))


class Pairs(unittest.TestCase):
    def test_example_of_the_overview(self):
        self.assertEqual(pairs((2, ((0, (), ()),))), (((0,), (0,)), ((0,), (0, 1)), ((0, 1), (0, 1))))

    def test_exception_is_met_by_the_larger_set(self):
        self.assertEqual(
            pairs((2, ((0, (), (1,)),))),
            (((), (0, 1)), ((), (1,)), ((0,), (0,)), ((0,), (0, 1)), ((0, 1), (0, 1)), ((1,), (0, 1)), ((1,), (1,))),
        )

    def test_no_rules_have_all_pairs(self):
        for atoms, many in ((1, 3), (2, 9), (3, 27), (4, 81)):
            found = pairs((atoms, ()))
            self.assertEqual(found, tuple(oracle.all_pairs(atoms)))
            self.assertEqual(len(found), many)

    def test_search_pair_by_pair(self):
        for book in oracle.many_books():
            self.assertEqual(pairs(book), oracle.pairs(book))

    def test_every_rule_alone(self):
        for atoms in (1, 2, 3, 4):
            for rule in oracle.all_rules(atoms):
                self.assertEqual(pairs((atoms, (rule,))), oracle.pairs((atoms, (rule,))))

    def test_larger_set_violates(self):
        # The smaller set obeys both rules; the larger one has no pair all the same.
        self.assertEqual(pairs((1, ((None, (0,), ()),))), (((), ()),))
        self.assertNotIn(((), (0,)), pairs((2, ((1, (0,), ()),))))

    def test_ascending(self):
        for book in oracle.many_books():
            found = pairs(book)
            self.assertEqual(found, tuple(sorted(set(found))))

    def test_many_rules(self):
        every = oracle.all_rules(4)
        for start in (0, 57, 300, len(every) - 100):
            book = (4, tuple(every[start:start + 100]))
            self.assertEqual(pairs(book), oracle.pairs(book))
        keeping = [rule for rule in every if oracle.fits((4, (rule,)), ((1,), (1, 3)))
                   and oracle.fits((4, (rule,)), ((), ()))][:100]
        self.assertEqual(len(keeping), 100)
        found = pairs((4, tuple(keeping)))
        self.assertEqual(found, oracle.pairs((4, tuple(keeping))))
        self.assertIn(((1,), (1, 3)), found)

    def test_order_of_the_rules_does_not_matter(self):
        rules = ((0, (), (1,)), (None, (1,), (2,)), (2, (1,), ()), (1, (0, 2), ()))
        for order in permutations(rules):
            self.assertEqual(pairs((3, order)), oracle.pairs((3, rules)))

    def test_book_error(self):
        for book in wrong.no_rulebooks():
            with self.assertRaises(BookError):
                pairs(book)


class Fits(unittest.TestCase):
    def test_all_pairs_of_sets(self):
        for book in oracle.many_books():
            there = set(oracle.pairs(book))
            sets = oracle.all_sets(book[0])
            for x in sets:
                for y in sets:
                    self.assertIs(fits(book, (x, y)), (x, y) in there)

    def test_not_within(self):
        for thing in (((0,), ()), ((0,), (1,)), ((0, 1), (0,)), ((0, 1), (1,)), ((0, 1, 2), (0, 1))):
            self.assertIs(fits((3, ()), thing), False, thing)

    def test_no_sets_of_the_atoms(self):
        for part in ((2,), (-1,), (1, 0), (0, 0), (0, 1, 2), (None,), ((),), ("0",)):
            self.assertIs(fits((2, ()), ((), part)), False, part)
            self.assertIs(fits((2, ()), (part, part)), False, part)
            self.assertIs(fits((2, ()), (part, (0, 1))), False, part)

    def test_parts_left_out_and_added(self):
        for thing in ((), ((),), ((), (), ()), ((), (0,), ()), (((), ()),), ((0,), (0,), None), (0, 0), (0, (0,))):
            self.assertIs(fits((2, ()), thing), False, thing)

    def test_lists_and_bools(self):
        for pair in (((0, 1), (0, 1)), ((0,), (0, 1)), ((1,), (0, 1)), ((), (0,)), ((), ())):
            self.assertIs(fits((2, ()), pair), True)
            for changed in wrong.with_bools(pair) + wrong.with_lists(pair):
                self.assertIs(fits((2, ()), changed), False, changed)

    def test_values_of_other_kinds(self):
        for book in ((1, ()), (4, ()), (2, ((0, (), ()),))):
            for thing in wrong.other_things():
                self.assertIs(fits(book, thing), False, thing)
                self.assertIs(fits(book, ((), thing)), False, thing)
                self.assertIs(fits(book, (thing, (0,))), False, thing)

    def test_book_error(self):
        for book in wrong.no_rulebooks():
            for thing in (((), ()), None, [], ((0,), ())):
                with self.assertRaises(BookError):
                    fits(book, thing)


class IsTable(unittest.TestCase):
    def test_all_sets_of_pairs_for_one_and_two_atoms(self):
        for atoms in (1, 2):
            for found in oracle.subsets(oracle.all_pairs(atoms)):
                self.assertIs(is_table(atoms, found), oracle.is_closed(found), found)

    def test_pairs_of_rulebooks(self):
        for book in oracle.many_books():
            self.assertIs(is_table(book[0], oracle.pairs(book)), True)

    def test_the_empty_tuple(self):
        for atoms in (1, 2, 3, 4):
            self.assertIs(is_table(atoms, ()), True)
            self.assertIs(is_table(atoms, []), False)

    def test_each_condition_broken_alone(self):
        for atoms in (2, 3, 4):
            self.assertIs(is_table(atoms, NO_TOP), False)
            self.assertIs(is_table(atoms, (((), (0,)), ((0,), (0,)))), True)
            self.assertIs(is_table(atoms, NO_LARGER), False)
            self.assertIs(is_table(atoms, (((), ()), ((), (0,)), ((0,), (0,)))), True)
            self.assertIs(is_table(atoms, NO_COMMON), False)
            self.assertIs(is_table(atoms, (((), (0, 1)), *NO_COMMON)), True)

    def test_a_pair_left_out_or_added(self):
        source = random.Random(31)
        answers = []
        for atoms, table in sample_tables():
            for pair in source.sample(oracle.all_pairs(atoms), 12):
                changed = tuple(sorted(set(table) ^ {pair}))
                answers.append(is_table(atoms, changed))
                self.assertIs(answers[-1], oracle.is_closed(changed), changed)
        self.assertIn(True, answers)
        self.assertIn(False, answers)

    def test_order(self):
        table = TABLES_FOR_ONE[2]
        for order in permutations(table):
            self.assertIs(is_table(1, order), order == table)
        full = tuple(oracle.all_pairs(4))
        self.assertIs(is_table(4, full), True)
        self.assertIs(is_table(4, full[::-1]), False)
        self.assertIs(is_table(4, (*full[1:], full[0])), False)

    def test_doubled_pairs(self):
        for table in TABLES_FOR_ONE:
            for at, pair in enumerate(table):
                self.assertIs(is_table(1, (*table[:at], pair, *table[at:])), False)
            if table:
                self.assertIs(is_table(1, table + table), False)

    def test_lists_and_bools(self):
        for table in (TABLES_FOR_ONE[2], (((), (0, 1)), *NO_COMMON), (((1,), (1,)),)):
            self.assertIs(is_table(2, table), True)
            for changed in wrong.with_bools(table) + wrong.with_lists(table):
                self.assertIs(is_table(2, changed), False, changed)

    def test_parts_that_are_no_pairs(self):
        for atoms in (1, 2):
            near = [((0,), ()), ((2,), (2,)), ((), (2,)), ((1, 0), (1, 0)), ((0,), (0,), ())]
            for thing in wrong.other_things() + near:
                self.assertIs(is_table(atoms, (thing,)), False, thing)
                self.assertIs(is_table(atoms, (((), ()), thing)), False, thing)
        self.assertIs(is_table(2, (((), (0,)), ((0,), ()), ((0,), (0,)))), False)

    def test_values_of_other_kinds(self):
        for atoms in (1, 4):
            for thing in wrong.other_things():
                self.assertIs(is_table(atoms, thing), False, thing)

    def test_atoms_that_there_are_not(self):
        for atoms in (1, 2, 3):
            table = (((atoms,), (atoms,)),)
            self.assertIs(is_table(atoms, table), False)
            self.assertIs(is_table(atoms + 1, table), True)

    def test_atoms_error(self):
        for atoms in wrong.numbers_of_no_atoms():
            for thing in ((), None, TABLES_FOR_ONE[2], []):
                with self.assertRaises(AtomsError):
                    is_table(atoms, thing)


class RulesOf(unittest.TestCase):
    def test_rule_by_rule(self):
        self.assertEqual(rules_of(1, ()), (1, ((None, (), (0,)), (None, (0,), ()))))
        self.assertEqual(rules_of(1, (((0,), (0,)),)), (1, ((None, (), (0,)), (0, (), ()))))
        self.assertEqual(rules_of(1, TABLES_FOR_ONE[2]), (1, ()))
        self.assertEqual(
            rules_of(2, (((0, 1), (0, 1)), ((1,), (0, 1)))),
            (2, ((None, (), (0, 1)), (None, (0,), (1,)), (1, (), ()), (1, (0,), ()), (None, (1,), (0,)))),
        )

    def test_a_least_atom_among_several(self):
        table = (((0, 1, 2, 3), (0, 1, 2, 3)), ((1, 2, 3), (0, 1, 2, 3)))
        atoms, rules = rules_of(4, table)
        heads = {rule[1]: rule[0] for rule in rules if rule[2] == () and rule[0] is not None}
        self.assertEqual(heads[()], 1)
        self.assertEqual(heads[(0,)], 1)
        self.assertEqual(heads[(1,)], 2)
        self.assertEqual(heads[(0, 1, 2)], 3)
        self.assertEqual(len(heads), 14)

    def test_all_tables_for_one_and_two_atoms(self):
        for atoms in (1, 2):
            for table in oracle.tables(atoms):
                found = rules_of(atoms, table)
                self.assertEqual(found, oracle.rules_of(atoms, table))
                self.assertIs(is_rulebook(found), True)
                self.assertEqual(pairs(found), table)

    def test_tables_for_more_atoms(self):
        for atoms, table in sample_tables():
            found = rules_of(atoms, table)
            self.assertEqual(found, oracle.rules_of(atoms, table))
            self.assertIs(is_rulebook(found), True)
            self.assertEqual(pairs(found), table)

    def test_no_pair_one_pair_and_all_pairs(self):
        for atoms in (1, 2, 3, 4):
            every = tuple(range(atoms))
            for table in ((), ((every, every),), tuple(oracle.all_pairs(atoms))):
                found = rules_of(atoms, table)
                self.assertEqual(found, oracle.rules_of(atoms, table))
                self.assertEqual(pairs(found), table)

    def test_atoms_error_comes_first(self):
        for atoms in wrong.numbers_of_no_atoms():
            for table in ((), None, NO_TOP, []):
                with self.assertRaises(AtomsError):
                    rules_of(atoms, table)

    def test_table_error(self):
        table = (((), (0, 1)), *NO_COMMON)
        for thing in [
            *wrong.other_things(), *wrong.with_bools(table), *wrong.with_lists(table),
            NO_TOP, NO_LARGER, NO_COMMON, table[::-1], table + table, (((2,), (2,)),),
        ]:
            with self.assertRaises(TableError):
                rules_of(2, thing)


class Tables(unittest.TestCase):
    def test_one_atom(self):
        self.assertEqual(list(tables(1)), TABLES_FOR_ONE)

    def test_search_among_all_sets_of_pairs(self):
        for atoms in (1, 2):
            self.assertEqual(list(tables(atoms)), oracle.tables(atoms))

    def test_ascending_and_different(self):
        for atoms in (1, 2):
            found = list(tables(atoms))
            self.assertEqual(found, sorted(set(found)))

    def test_they_are_the_pairs_of_all_rulebooks(self):
        self.assertEqual(set(tables(1)), {pairs(book) for book in oracle.books_of_one_atom()})

    def test_two_generators_side_by_side(self):
        one, other = tables(2), tables(2)
        ahead = [next(one), next(one)]
        expected = oracle.tables(2)
        self.assertEqual(next(other), expected[0])
        self.assertEqual([*ahead, *one], expected)
        self.assertEqual(list(other), expected[1:])
        for single, double in zip(tables(1), tables(2)):
            self.assertIn(single, TABLES_FOR_ONE)
            self.assertIn(double, expected)

    def test_atoms_error(self):
        for atoms in wrong.numbers_of_no_atoms():
            with self.assertRaises(AtomsError):
                next(tables(atoms))

    def test_limit_error(self):
        for atoms in (3, 4):
            with self.assertRaises(LimitError) as caught:
                next(tables(atoms))
            self.assertEqual((caught.exception.amount, caught.exception.limit), (atoms, 2))

    def test_a_number_of_no_atoms_is_above_no_limit(self):
        for atoms in (5, 100):
            with self.assertRaises(SwapError) as caught:
                next(tables(atoms))
            self.assertNotIsInstance(caught.exception, LimitError)


class Calls(unittest.TestCase):
    def test_equal_calls_give_equal_results(self):
        for book in oracle.sample_books(5):
            first = pairs(book)
            self.assertIs(type(first), tuple)
            self.assertEqual(pairs(copy.deepcopy(book)), first)
            self.assertEqual(rules_of(book[0], first), rules_of(book[0], copy.deepcopy(first)))
        self.assertEqual(list(tables(2)), list(tables(2)))

    def test_arguments_stay_as_they_are(self):
        for thing in ([[], []], [[0], [0]], ([0], [0]), [((), ())], ([[1], [0, 1]], [[0], [0]]), {0: [1]}):
            kept = repr(thing)
            self.assertIs(fits((2, ()), thing), False)
            self.assertIs(is_table(2, thing), False)
            for call in (lambda: pairs(thing), lambda: fits(thing, ((), ()))):
                with self.assertRaises(BookError):
                    call()
            with self.assertRaises(TableError):
                rules_of(2, thing)
            self.assertEqual(repr(thing), kept)


if __name__ == "__main__":
    unittest.main()
