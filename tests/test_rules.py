import copy
import inspect
import unittest
from itertools import permutations

from defaultswaps import rules
from defaultswaps.errors import AtomsError, BookError, SetError
from defaultswaps.rules import is_rule, is_rulebook, least, remaining, violated
from tests import oracle, wrong

BOOK = (3, ((0, (), (1,)), (None, (0, 1), (2,)), (1, (0,), ()), (2, (0, 1), ())))


class Interface(unittest.TestCase):
    def test_names_and_arguments(self):
        expected = {
            "is_rulebook": ["thing"], "is_rule": ["atoms", "thing"],
            "remaining": ["book", "chosen"], "violated": ["book", "chosen"], "least": ["book", "chosen"],
        }
        for name, arguments in expected.items():
            function = getattr(rules, name)
            self.assertEqual(list(inspect.signature(function).parameters), arguments)
            self.assertEqual(function.__module__, "defaultswaps.rules")


class IsRulebook(unittest.TestCase):
    def test_rulebooks(self):
        for book in [*oracle.many_books(), BOOK]:
            self.assertIs(is_rulebook(book), True, book)

    def test_any_order_of_the_rules(self):
        for order in permutations(BOOK[1]):
            self.assertIs(is_rulebook((3, order)), True)

    def test_number_of_atoms(self):
        for atoms in (1, 2, 3, 4):
            self.assertIs(is_rulebook((atoms, ())), True)
            self.assertIs(is_rulebook((atoms, ((0, (), ()),))), True)
        for atoms in wrong.numbers_of_no_atoms():
            self.assertIs(is_rulebook((atoms, ())), False, atoms)

    def test_hundred_rules_and_one_more(self):
        for atoms in (3, 4):
            many = tuple(oracle.all_rules(atoms))
            self.assertIs(is_rulebook((atoms, many[:99])), True)
            self.assertIs(is_rulebook((atoms, many[:100])), True)
            self.assertIs(is_rulebook((atoms, many[:101])), False)
            self.assertIs(is_rulebook((atoms, many)), False)

    def test_a_rule_twice(self):
        rule = (0, (), (1,))
        self.assertIs(is_rulebook((2, (rule, rule))), False)
        self.assertIs(is_rulebook((2, (rule, (1, (), ()), rule))), False)
        self.assertIs(is_rulebook((3, (*BOOK[1], BOOK[1][1]))), False)
        hundred = tuple(oracle.all_rules(4)[:100])
        self.assertIs(is_rulebook((4, (*hundred[:99], hundred[0]))), False)

    def test_rules_that_differ_in_one_part_are_different(self):
        for twins in (
            ((0, (1,), ()), (0, (), (1,))), ((0, (), ()), (None, (), ())),
            ((0, (), ()), (1, (), ())), ((0, (0,), ()), (0, (0, 1), ())),
        ):
            self.assertIs(is_rulebook((2, twins)), True)

    def test_lists_in_place_of_tuples(self):
        for changed in wrong.with_lists(BOOK):
            self.assertIs(is_rulebook(changed), False, changed)

    def test_bools_in_place_of_integers(self):
        self.assertEqual(len(wrong.with_bools((1, BOOK[1]))), 9)
        for book in (BOOK, (1, ((0, (), ()), (0, (0,), (0,)))), (2, ((1, (0, 1), (0, 1)),))):
            for changed in wrong.with_bools(book):
                self.assertIs(is_rulebook(changed), False, changed)

    def test_bool_beside_the_equal_integer(self):
        self.assertIs(is_rulebook((2, ((0, (), ()), (False, (), ())))), False)
        self.assertIs(is_rulebook((2, ((False, (), ()), (0, (), ())))), False)

    def test_parts_left_out_and_added(self):
        for changed in ((), (3,), BOOK[1], (BOOK,), (*BOOK, ()), (*BOOK, None), BOOK[::-1], (3, *BOOK[1])):
            self.assertIs(is_rulebook(changed), False, changed)

    def test_rules_that_are_none(self):
        for thing in [*wrong.other_things(), (0, ()), (3, (), ()), (0, (), (3,)), (0, (1, 0), ())]:
            self.assertIs(is_rulebook((3, (thing,))), False, thing)
            self.assertIs(is_rulebook((3, (*BOOK[1], thing))), False, thing)
            self.assertIs(is_rulebook((3, (thing, thing))), False, thing)

    def test_rules_for_more_atoms(self):
        for atoms in (1, 2, 3):
            for rule in ((atoms, (), ()), (0, (atoms,), ()), (0, (), (atoms,))):
                self.assertIs(is_rulebook((atoms, (rule,))), False)
                self.assertIs(is_rulebook((atoms + 1, (rule,))), True)

    def test_values_of_other_kinds(self):
        for thing in wrong.other_things():
            self.assertIs(is_rulebook(thing), False, thing)
            self.assertIs(is_rulebook((2, thing)), False, thing)
            self.assertIs(is_rulebook((thing, thing)), False, thing)


class IsRule(unittest.TestCase):
    def test_all_rules(self):
        for atoms in (1, 2, 3, 4):
            for rule in oracle.all_rules(atoms):
                self.assertIs(is_rule(atoms, rule), True, rule)

    def test_atoms_that_there_are_not(self):
        rules_of_four = oracle.all_rules(4)
        for atoms in (1, 2, 3):
            there = set(oracle.all_rules(atoms))
            for rule in rules_of_four:
                self.assertIs(is_rule(atoms, rule), rule in there, rule)
        for atom in (-1, 4, 5, 10 ** 13 - 1, 1 - 10 ** 13):
            for rule in ((atom, (), ()), (0, (atom,), ()), (0, (), (atom,)), (None, (), (atom,))):
                self.assertIs(is_rule(4, rule), False, rule)

    def test_sets_that_are_not_ascending(self):
        for chosen in ((1, 0), (0, 0), (0, 1, 1), (0, 2, 1), (3, 2, 1, 0), (1, 1), (0, 1, 2, 3, 3)):
            self.assertIs(is_rule(4, (0, chosen, ())), False)
            self.assertIs(is_rule(4, (0, (), chosen)), False)
            self.assertIs(is_rule(4, (None, chosen, chosen)), False)

    def test_parts_left_out_and_added(self):
        for thing in (
            (), (0,), (0, ()), ((), ()), (0, (), (), ()), (0, (), (), None), ((), (), 0), ((0, (), ()),),
            ((), 0, ()), (0, 1, ()), (0, (), 1), (0, None, ()), (0, (), None), ((), (), ()), (None, None, None),
        ):
            self.assertIs(is_rule(2, thing), False, thing)

    def test_a_part_changed(self):
        for part in wrong.other_things():
            for holds in ((), (0,), (0, 1)):
                if part is not None and not (type(part) is int and part in (0, 1)):
                    self.assertIs(is_rule(2, (part, holds, ())), False, part)
                self.assertIs(is_rule(2, (0, part, holds)), False, part)
                self.assertIs(is_rule(2, (0, holds, part)), False, part)

    def test_bools_and_lists(self):
        for rule in ((0, (0, 1), (0, 1)), (1, (), ()), (None, (1,), ()), (None, (), (0,)), (1, (0,), (2, 3))):
            for changed in wrong.with_bools(rule) + wrong.with_lists(rule):
                self.assertIs(is_rule(4, changed), False, changed)

    def test_values_of_other_kinds(self):
        for atoms in (1, 4):
            for thing in wrong.other_things():
                self.assertIs(is_rule(atoms, thing), False, thing)

    def test_atoms_error(self):
        for atoms in wrong.numbers_of_no_atoms():
            for thing in ((0, (), ()), None, [], (None, (), ())):
                with self.assertRaises(AtomsError):
                    is_rule(atoms, thing)


class RulesAtASet(unittest.TestCase):
    def test_example(self):
        self.assertEqual(remaining(BOOK, (0,)), BOOK[1])
        self.assertEqual(remaining(BOOK, (1, 2)), BOOK[1][2:])
        self.assertEqual(violated(BOOK, (0,)), (BOOK[1][2],))
        self.assertEqual(violated(BOOK, (0, 1)), (BOOK[1][1], BOOK[1][3]))
        self.assertEqual(least(BOOK, ()), (0, 1, 2))
        self.assertEqual(least(BOOK, (0, 1, 2)), ())

    def test_many_books_at_all_sets(self):
        for book in oracle.many_books():
            for chosen in oracle.all_sets(book[0]):
                left = tuple(rule for rule in book[1] if oracle.remains(rule, chosen))
                broken = tuple(rule for rule in book[1] if oracle.violates(chosen, rule))
                self.assertEqual(remaining(book, chosen), left)
                self.assertEqual(violated(book, chosen), broken)
                self.assertEqual(least(book, chosen), oracle.least(book, chosen))

    def test_every_rule_alone(self):
        for atoms in (1, 2, 3):
            for rule in oracle.all_rules(atoms):
                for chosen in oracle.all_sets(atoms):
                    book = (atoms, (rule,))
                    self.assertEqual(remaining(book, chosen), (rule,) * oracle.remains(rule, chosen))
                    self.assertEqual(violated(book, chosen), (rule,) * oracle.violates(chosen, rule))
                    self.assertEqual(least(book, chosen), oracle.least(book, chosen))

    def test_order_of_the_book(self):
        book = (2, ((1, (), ()), (None, (), ()), (0, (), ()), (None, (), (1,))))
        for order in permutations(book[1]):
            self.assertEqual(remaining((2, order), ()), order)
            self.assertEqual(violated((2, order), ()), order)
            self.assertEqual(least((2, order), ()), (0, 1))

    def test_rules_without_a_head(self):
        book = (2, ((None, (0,), ()), (None, (), (1,)), (None, (0, 1), ())))
        self.assertEqual(remaining(book, (0, 1)), (book[1][0], book[1][2]))
        self.assertEqual(violated(book, (0, 1)), (book[1][0], book[1][2]))
        self.assertEqual(violated(book, (0,)), book[1][:2])
        self.assertEqual(violated(book, ()), (book[1][1],))
        self.assertEqual(violated(book, (1,)), ())
        for chosen in oracle.all_sets(2):
            self.assertEqual(least(book, chosen), ())

    def test_least_takes_rules_in_any_order(self):
        chain = ((3, (2,), ()), (2, (1,), ()), (1, (0,), ()), (0, (), ()))
        for order in permutations(chain):
            self.assertEqual(least((4, order), ()), (0, 1, 2, 3))
            self.assertEqual(least((4, order[:3]), (0, 1, 2, 3)), oracle.least((4, order[:3]), ()))

    def test_least_may_lie_outside_of_the_set(self):
        self.assertEqual(least((2, ((1, (), (0,)),)), ()), (1,))
        self.assertEqual(least((2, ((1, (), (0,)),)), (0,)), ())

    def test_no_rules(self):
        for atoms in (1, 2, 3, 4):
            for chosen in oracle.all_sets(atoms):
                self.assertEqual(remaining((atoms, ()), chosen), ())
                self.assertEqual(violated((atoms, ()), chosen), ())
                self.assertEqual(least((atoms, ()), chosen), ())

    def test_hundred_rules(self):
        book = (4, tuple(oracle.all_rules(4)[:100]))
        self.assertEqual(len(remaining(book, ())), 100)
        with self.assertRaises(BookError):
            remaining((4, tuple(oracle.all_rules(4)[:101])), ())


class ErrorsAtASet(unittest.TestCase):
    functions = (remaining, violated, least)

    def test_book_error(self):
        for function in self.functions:
            for book in wrong.no_rulebooks():
                with self.assertRaises(BookError):
                    function(book, ())

    def test_set_error(self):
        for function in self.functions:
            for chosen in wrong.no_sets():
                with self.assertRaises(SetError):
                    function(BOOK, chosen)
                with self.assertRaises(SetError):
                    function((3, ()), chosen)

    def test_set_of_more_atoms(self):
        for function in self.functions:
            for atoms in (1, 2, 3):
                with self.assertRaises(SetError):
                    function((atoms, ()), (atoms,))
                function((atoms + 1, ()), (atoms,))

    def test_book_error_if_both_are_wrong(self):
        for function in self.functions:
            for book in wrong.no_rulebooks():
                for chosen in (None, (3,), [0], (True,), (1, 0)):
                    with self.assertRaises(BookError):
                        function(book, chosen)


class Calls(unittest.TestCase):
    def test_equal_calls_give_equal_results(self):
        for function in (remaining, violated, least):
            for book in oracle.sample_books(5):
                for chosen in oracle.all_sets(book[0]):
                    first = function(book, chosen)
                    self.assertIs(type(first), tuple)
                    self.assertEqual(function(copy.deepcopy(book), chosen), first)
                    self.assertEqual(function(book, chosen), first)

    def test_arguments_stay_as_they_are(self):
        for thing in ([2, [[0, [], []]]], (2, [[0, [1], []]]), (2, ([0, [], []],)), {2: [0]}, [1, 0]):
            kept = copy.deepcopy(thing)
            self.assertIs(is_rulebook(thing), False)
            self.assertIs(is_rule(2, thing), False)
            for function in (remaining, violated, least):
                with self.assertRaises(BookError):
                    function(thing, ())
                with self.assertRaises(SetError):
                    function((2, ()), thing)
            self.assertEqual(thing, kept)
            self.assertEqual(repr(thing), repr(kept))


if __name__ == "__main__":
    unittest.main()
