import copy
import inspect
from itertools import permutations

from defaultswaps import objects as module
from defaultswaps.errors import AtomError, AtomsError, BookError, MatchError, NumberError, RuleError
from defaultswaps.errors import SetError, TextError
from defaultswaps.objects import Choice, Facts, Round, Rules, Start
from defaultswaps.texts import book_text
from tests import oracle, wrong
from tests.case import Case

ZERO, ONE, TWO = (0, (), ()), (1, (), ()), (2, (), ())
BOOK = (3, ((0, (), (1,)), (None, (0, 1), (2,)), (1, (0,), ())))
TABLES_OF_TWO = [oracle.rules_of(2, table) for table in oracle.tables(2)]


class Own(Facts):
    """A class derived from those of the package."""

    def kinds(self):
        return ("Own", *super().kinds())


def rules_of(book):
    return Rules(book[0], *book[1])


def books():
    return oracle.many_books() + oracle.settling_books()


def every_class():
    """Objects of all classes, with rules for three atoms."""
    return [
        rules_of(BOOK), Rules(3), Facts(3), Facts(3, 2, 0), Round(3, 2, 1), Round(3, 0, 1, 2), Choice(3, 0, 2),
        Choice(3, 2, 0), Start(3, 1, 2, facts=(0,)), Start(3, 1), Start(3), Own(3, 1, 0),
    ]


def long_rules(start, end):
    return Rules(4, *oracle.all_rules(4)[start:end])


class Interface(Case):
    def test_each_class_defines_what_is_listed_for_it(self):
        listed = {
            Rules: (
                "__init__", "plain", "atoms", "MOST", "__getitem__", "__or__", "__sub__", "__call__", "swaps", "of",
                "read", "fact", "__contains__", "__len__", "__eq__", "__repr__", "kinds",
            ),
            Facts: ("__init__", "members", "kinds"), Round: ("__init__", "members", "kinds"),
            Choice: ("__init__", "kinds"), Start: ("__init__", "members", "facts", "kinds"),
        }
        for found, names in listed.items():
            self.assertEqual(found.__module__, module.__name__)
            for name in names:
                self.assertIn(name, vars(found))
        for found, name in (
            (Rules, "plain"), (Rules, "atoms"), (Facts, "members"), (Round, "members"), (Start, "members"),
            (Start, "facts"),
        ):
            self.assertIsInstance(vars(found)[name], property)
        self.assertIsInstance(vars(Rules)["of"], classmethod)
        self.assertIsInstance(vars(Rules)["read"], classmethod)
        self.assertIsInstance(vars(Rules)["fact"], staticmethod)

    def test_arguments(self):
        for found, expected in (
            (Rules, "(atoms, *rules)"), (Facts, "(atoms, *members)"), (Round, "(atoms, *members)"),
            (Choice, "(atoms, first, second)"), (Start, "(atoms, *members, facts=())"), (Rules.of, "(book)"),
            (Rules.read, "(text)"), (Rules.fact, "(atom)"), (Rules(1).swaps, "(other)"), (Rules(1).kinds, "()"),
        ):
            self.assertEqual(str(inspect.signature(found)), expected)

    def test_classes_and_those_below(self):
        self.assertEqual(Start.__bases__, (Facts, Round))
        for found in (Facts, Round, Choice):
            self.assertEqual(found.__bases__, (Rules,))


class Created(Case):
    def test_plain_and_atoms(self):
        for book in books():
            rules = rules_of(book)
            self.assertEqual(rules.plain, book)
            self.assertIs(type(rules.plain), tuple)
            self.assertIs(type(rules.plain[1]), tuple)
            self.assertEqual(rules.atoms, book[0])
            self.assertEqual(len(rules), len(book[1]))

    def test_plain_and_atoms_cannot_be_assigned(self):
        rules = rules_of(BOOK)
        for name in ("plain", "atoms"):
            with self.assertRaises(AttributeError):
                setattr(rules, name, 1)
        self.assertEqual(rules.plain, BOOK)

    def test_most(self):
        self.assertEqual(Rules.MOST, 100)
        for rules in every_class():
            self.assertEqual(rules.MOST, 100)
        self.assertEqual(len(long_rules(0, Rules.MOST)), 100)

    def test_atoms_error(self):
        for atoms in wrong.numbers_of_no_atoms():
            self.assert_error(AtomsError, Rules, atoms)
            self.assert_error(AtomsError, Rules, atoms, ZERO)
            self.assert_error(AtomsError, Rules, atoms, None, None)
            self.assert_error(AtomsError, Rules, atoms, *oracle.all_rules(4))

    def test_rule_error(self):
        for rule in wrong.no_rules():
            self.assert_error(RuleError, Rules, 3, rule)
            self.assert_error(RuleError, Rules, 3, ZERO, rule)
            self.assert_error(RuleError, Rules, 3, rule, rule, ZERO)
        for atoms in (1, 2, 3):
            for rule in ((atoms, (), ()), (0, (atoms,), ()), (None, (), (atoms,))):
                self.assert_error(RuleError, Rules, atoms, rule)
                self.assertEqual(Rules(atoms + 1, rule).plain, (atoms + 1, (rule,)))
        self.assert_error(RuleError, Rules, 3, BOOK[1])
        self.assert_error(RuleError, Rules, *BOOK)

    def test_two_equal_rules(self):
        self.assert_error(RuleError, Rules, 2, ZERO, ZERO)
        self.assert_error(RuleError, Rules, 2, ZERO, ONE, ZERO)
        self.assert_error(RuleError, Rules, 3, *BOOK[1], BOOK[1][1])
        self.assert_error(RuleError, Rules, 2, ONE, (True, (), ()))

    def test_limit_error(self):
        every = oracle.all_rules(4)
        for amount in (101, 102, 150, len(every)):
            self.assert_limit(amount, Rules, 4, *every[:amount])
        self.assert_limit(101, Rules, 3, *oracle.all_rules(3)[:101])
        self.assertEqual(len(Rules(4, *every[:100])), 100)

    def test_rule_error_comes_before_limit_error(self):
        every = oracle.all_rules(4)
        self.assert_error(RuleError, Rules, 4, *every[:101], every[0])
        self.assert_error(RuleError, Rules, 4, *every[:100], every[0])
        self.assert_error(RuleError, Rules, 4, *every[:101], None)
        self.assert_error(RuleError, Rules, 3, *every)


class Positions(Case):
    def test_rules_by_their_positions(self):
        for book in oracle.sample_books(5) + [long_rules(0, 100).plain]:
            rules = rules_of(book)
            self.assertEqual(tuple(rules[at] for at in range(len(rules))), book[1])

    def test_number_error(self):
        for rules in (*every_class(), long_rules(0, 100)):
            for at in [
                -1, -2, len(rules), len(rules) + 1, -len(rules) - 1, 10 ** 13 - 1, True, False, None, "0", "",
                (), (0,), [], [0], {}, {0: 0}, 0.0, slice(None), slice(0, 1), ZERO, *wrong.things_with_objects(),
            ]:
                self.assert_error(NumberError, lambda: rules[at])

    def test_rules_are_not_iterated_over(self):
        with self.assertRaises(TypeError):
            iter(rules_of(BOOK))


class Contained(Case):
    def test_all_rules(self):
        for book in oracle.sample_books(5):
            rules = rules_of(book)
            for rule in oracle.all_rules(4)[::7]:
                self.assertIs(rule in rules, rule in book[1])
            for rule in book[1]:
                self.assertIs(rule in rules, True)
                self.assertIs(rule not in rules, False)

    def test_any_value(self):
        for rules in every_class():
            for thing in [*wrong.no_rules(), rules, rules.plain, rules.plain[1]]:
                self.assertIs(thing in rules, False)

    def test_bools_and_lists(self):
        rules = Rules(2, ZERO, ONE, (1, (0, 1), (0,)))
        for rule in rules.plain[1]:
            self.assertIs(rule in rules, True)
            for changed in wrong.with_bools(rule) + wrong.with_lists(rule):
                self.assertIs(changed in rules, False)


class Union(Case):
    def test_the_rules_of_the_first_and_then_the_others(self):
        self.assertEqual((Rules(3, TWO, ZERO) | Rules(3, ONE, ZERO)).plain, (3, (TWO, ZERO, ONE)))
        self.assertEqual((Rules(3) | Rules(3, TWO, ONE)).plain, (3, (TWO, ONE)))
        self.assertEqual((Rules(3, ONE, TWO) | Rules(3, TWO, ONE)).plain, (3, (ONE, TWO)))
        self.assertEqual((Rules(3) | Rules(3)).plain, (3, ()))

    def test_search(self):
        for one in oracle.settling_books(5):
            for other in oracle.settling_books(5):
                if one[0] == other[0]:
                    found = rules_of(one) | rules_of(other)
                    self.assertIs(type(found), Rules)
                    self.assertEqual(found.plain, oracle.union(one, other))

    def test_among_all_classes(self):
        for one in every_class():
            for other in every_class():
                before = one.plain, other.plain
                found = one | other
                self.assertIs(type(found), Rules)
                self.assertEqual(found.plain, oracle.union(*before))
                self.assertEqual((one.plain, other.plain), before)

    def test_book_error(self):
        for rules in (Rules(2), Facts(2, 0), Start(2, 0, facts=(1,))):
            for thing in wrong.other_things() + [(2, ()), rules.plain, rules.plain[1]]:
                if not isinstance(thing, Rules):
                    self.assert_error(BookError, lambda: rules | thing)
                    self.assert_error(BookError, lambda: rules - thing)

    def test_match_error(self):
        for one in (1, 2, 3, 4):
            for other in (1, 2, 3, 4):
                if one != other:
                    self.assert_error(MatchError, lambda: Rules(one) | Rules(other, ZERO))
                    self.assert_error(MatchError, lambda: Facts(one, 0) | Start(other))
                    self.assert_error(MatchError, lambda: Rules(one, ZERO) - Facts(other, 0))
                    self.assert_error(MatchError, lambda: Start(one) - Rules(other))

    def test_limit_error(self):
        self.assert_limit(101, lambda: long_rules(0, 100) | long_rules(100, 101))
        self.assert_limit(101, lambda: long_rules(0, 100) | long_rules(50, 101))
        self.assert_limit(200, lambda: long_rules(0, 100) | long_rules(100, 200))
        self.assert_limit(150, lambda: long_rules(0, 100) | long_rules(50, 150))
        self.assertEqual((long_rules(0, 100) | long_rules(20, 100)).plain, long_rules(0, 100).plain)
        self.assertEqual((long_rules(0, 60) | long_rules(40, 100)).plain, long_rules(0, 100).plain)

    def test_match_error_comes_before_limit_error(self):
        rules = Rules(3, *oracle.all_rules(3)[:100])
        self.assert_error(MatchError, lambda: long_rules(150, 250) | rules)
        self.assert_error(MatchError, lambda: rules | long_rules(150, 250))


class Difference(Case):
    def test_the_rules_that_the_other_does_not_have(self):
        self.assertEqual((Rules(3, TWO, ZERO, ONE) - Rules(3, ZERO)).plain, (3, (TWO, ONE)))
        self.assertEqual((Rules(3, TWO, ZERO) - Rules(3)).plain, (3, (TWO, ZERO)))
        self.assertEqual((Rules(3, TWO, ZERO) - Rules(3, ZERO, TWO, ONE)).plain, (3, ()))
        self.assertEqual((Rules(3) - Rules(3, ZERO)).plain, (3, ()))
        self.assertEqual((long_rules(0, 100) - long_rules(50, 150)).plain, long_rules(0, 50).plain)

    def test_among_all_classes(self):
        for one in every_class():
            for other in every_class():
                before = one.plain, other.plain
                found = one - other
                self.assertIs(type(found), Rules)
                self.assertEqual(found.plain, (3, tuple(rule for rule in one.plain[1] if rule not in other.plain[1])))
                self.assertEqual((one.plain, other.plain), before)


class Called(Case):
    def test_settled_sets_with_facts(self):
        self.assertEqual(Choice(3, 0, 1)(()), ((0,), (1,)))
        self.assertEqual(Choice(3, 0, 1)((2,)), ((0, 2), (1, 2)))
        self.assertEqual(Choice(3, 0, 1)((0,)), ((0,),))
        self.assertEqual(Round(3, 0, 1, 2)((1,)), ((0, 1, 2),))
        self.assertEqual(Rules(1, (None, (), ()))(()), ())

    def test_search(self):
        for book in oracle.settling_books(10) + oracle.sample_books(5) + [rules.plain for rules in every_class()]:
            for chosen in oracle.all_sets(book[0]):
                found = rules_of(book)(chosen)
                self.assertIs(type(found), tuple)
                self.assertEqual(found, oracle.settled(oracle.union(book, oracle.facts(book[0], chosen))))

    def test_hundred_rules_and_facts_besides(self):
        book = oracle.book_keeping(100, 1, (0, 1), (0, 2), (1, 2, 3))
        for chosen in oracle.all_sets(4):
            self.assertEqual(
                rules_of(book)(chosen), oracle.settled(oracle.union(book, oracle.facts(4, chosen))),
            )

    def test_set_error(self):
        for rules in every_class():
            for chosen in wrong.no_sets():
                self.assert_error(SetError, rules, chosen)
        for atoms in (1, 2, 3, 4):
            self.assert_error(SetError, Rules(atoms), (atoms,))
            self.assert_error(SetError, Rules(atoms, ZERO), (0, atoms))


class Swapped(Case):
    def test_all_tables_for_two_atoms(self):
        for one in TABLES_OF_TWO:
            for other in TABLES_OF_TWO:
                self.assertIs(rules_of(one).swaps(rules_of(other)), one == other)

    def test_search(self):
        answers = set()
        for one, other in oracle.alike_books(8):
            answer = rules_of(one).swaps(rules_of(other))
            self.assertIs(answer, oracle.pairs(one) == oracle.pairs(other))
            self.assertIs(rules_of(other).swaps(rules_of(one)), answer)
            answers.add(answer)
        self.assertEqual(answers, {True, False})

    def test_among_all_classes(self):
        for one in every_class():
            for other in every_class():
                self.assertIs(one.swaps(other), oracle.pairs(one.plain) == oracle.pairs(other.plain))
        self.assertIs(Start(2, 0, 1, facts=(0,)).swaps(Facts(2, 0, 1)), True)
        self.assertIs(Start(2, 0, 1).swaps(Round(2, 1, 0)), True)
        self.assertIs(Choice(2, 0, 1).swaps(Choice(2, 1, 0)), True)
        self.assertIs(Choice(2, 0, 1).swaps(Facts(2, 0)), False)

    def test_book_error(self):
        for rules in (Rules(2), Facts(2, 0), Start(2, 0, facts=(1,))):
            for thing in wrong.other_things() + [(2, ()), rules.plain]:
                if not isinstance(thing, Rules):
                    self.assert_error(BookError, rules.swaps, thing)

    def test_match_error(self):
        for one in (1, 2, 3, 4):
            for other in (1, 2, 3, 4):
                if one != other:
                    self.assert_error(MatchError, Rules(one).swaps, Rules(other))
                    self.assert_error(MatchError, Facts(one, 0).swaps, Start(other, facts=(0,)))


class Equal(Case):
    def test_another_order_of_the_rules(self):
        for order in permutations(BOOK[1]):
            self.assertIs(rules_of(BOOK) == Rules(3, *order), True)
            self.assertIs(rules_of(BOOK) != Rules(3, *order), False)

    def test_other_rules(self):
        rules = rules_of(BOOK)
        for other in (Rules(3), Rules(3, *BOOK[1][1:]), Rules(3, *BOOK[1], ZERO), Rules(3, *BOOK[1][1:], ZERO)):
            self.assertIs(rules == other, False)
            self.assertIs(rules != other, True)
            self.assertIs(other == rules, False)

    def test_other_numbers_of_atoms(self):
        for one in (1, 2, 3, 4):
            for other in (1, 2, 3, 4):
                for rules in ((), (ZERO,), ((None, (0,), ()), ZERO)):
                    self.assertIs(Rules(one, *rules) == Rules(other, *rules), one == other)
                    self.assertIs(Rules(one, *rules) != Rules(other, *rules), one != other)

    def test_whatever_their_classes(self):
        for one in every_class():
            for other in every_class():
                same = sorted(map(repr, one.plain[1])) == sorted(map(repr, other.plain[1]))
                self.assertIs(one == other, same)
                self.assertIs(one != other, not same)
        self.assertIs(Facts(2, 0, 1) == Rules(2, ONE, ZERO), True)
        self.assertIs(Start(2, facts=(0, 1)) == Facts(2, 1, 0), True)
        self.assertIs(Start(3, 0, 2) == Round(3, 2, 0), True)
        self.assertIs(Choice(3, 0, 2) == Choice(3, 2, 0), True)
        self.assertIs(Own(2, 1) == Rules(2, ONE), True)
        self.assertIs(Rules(2, ONE) == Own(2, 1), True)
        self.assertIs(Rules(2) == Facts(2), True)

    def test_rules_that_can_be_swapped_need_not_be_equal(self):
        self.assertIs(Rules(1) == Rules(1, (0, (0,), ())), False)
        self.assertIs(Rules(1).swaps(Rules(1, (0, (0,), ()))), True)

    def test_values_that_are_no_rules(self):
        for rules in every_class():
            for thing in [*wrong.other_things(), rules.plain, rules.plain[1], list(rules.plain), repr(rules)]:
                if not isinstance(thing, Rules):
                    self.assertIs(rules == thing, False)
                    self.assertIs(thing == rules, False)
                    self.assertIs(rules != thing, True)

    def test_the_same_object(self):
        for rules in every_class():
            self.assertIs(rules == rules, True)
            self.assertIs(rules != rules, False)


class Shown(Case):
    def test_the_same_words_for_all_numbers(self):
        for atoms in (1, 2, 3, 4):
            for many in (0, 1, 2, 3):
                rules = oracle.all_rules(4)[:many] if atoms == 4 else oracle.all_rules(atoms)[:many]
                self.assertEqual(repr(Rules(atoms, *rules)), f"Rules({atoms} atoms, {many} rules)")
        self.assertEqual(repr(long_rules(0, 100)), "Rules(4 atoms, 100 rules)")
        self.assertEqual(repr(Rules(2, ZERO)), "Rules(2 atoms, 1 rules)")

    def test_the_name_of_the_class(self):
        for rules, expected in (
            (Facts(1, 0), "Facts(1 atoms, 1 rules)"), (Facts(2), "Facts(2 atoms, 0 rules)"),
            (Round(3, 0, 1, 2), "Round(3 atoms, 6 rules)"), (Choice(4, 0, 3), "Choice(4 atoms, 2 rules)"),
            (Start(4, 0, 1, facts=(2, 3)), "Start(4 atoms, 4 rules)"), (Own(2, 1), "Own(2 atoms, 1 rules)"),
            (Facts(2, 0) | Facts(2, 1), "Rules(2 atoms, 2 rules)"), (Start(2) - Start(2), "Rules(2 atoms, 0 rules)"),
        ):
            self.assertEqual(repr(rules), expected)
            self.assertEqual(str(rules), expected)


class Makers(Case):
    def test_of(self):
        for book in books():
            found = Rules.of(book)
            self.assertIs(type(found), Rules)
            self.assertEqual(found.plain, book)
        for book in wrong.no_rulebooks():
            self.assert_error(BookError, Rules.of, book)
            self.assert_error(BookError, Start.of, book)

    def test_read(self):
        for book in books():
            found = Rules.read(book_text(book))
            self.assertIs(type(found), Rules)
            self.assertEqual(found.plain, book)
        for text in [thing for thing in wrong.other_things() if thing != "atoms 2\n"] + ["atoms 2", "atoms 2\n 0\n"]:
            self.assert_error(TextError, Rules.read, text)
            self.assert_error(TextError, Choice.read, text)

    def test_on_other_classes(self):
        for found in (Rules, Facts, Round, Choice, Start, Own, Start(2, 0), Own(1)):
            self.assertIs(type(found.of(BOOK)), Rules)
            self.assertEqual(found.of(BOOK).plain, BOOK)
            self.assertEqual(repr(found.of(BOOK)), "Rules(3 atoms, 3 rules)")
            self.assertIs(type(found.read("atoms 2\n1 not 0\n")), Rules)
            self.assertEqual(found.read("atoms 2\n1 not 0\n").plain, (2, ((1, (), (0,)),)))
            self.assertEqual(found.fact(2), TWO)

    def test_fact(self):
        for atom in (0, 1, 2, 3):
            self.assertEqual(Rules.fact(atom), (atom, (), ()))
            self.assertEqual(Rules(4, Rules.fact(atom)), Facts(4, atom))
        for atom in [
            4, 5, -1, 10 ** 13 - 1, True, False, None, "0", "", (), (0,), [], [0], {}, 0.0, ZERO,
            *wrong.things_with_objects(),
        ]:
            self.assert_error(AtomError, Rules.fact, atom)
            self.assert_error(AtomError, Facts.fact, atom)


class Members(Case):
    def test_facts(self):
        for atoms in (1, 2, 3, 4):
            for chosen in oracle.all_sets(atoms):
                for members in permutations(chosen):
                    found = Facts(atoms, *members)
                    self.assertEqual(found.members, chosen)
                    self.assertEqual(found.plain, oracle.facts(atoms, chosen))

    def test_round(self):
        for atoms in (1, 2, 3, 4):
            for chosen in oracle.all_sets(atoms):
                for members in permutations(chosen):
                    found = Round(atoms, *members)
                    self.assertEqual(found.members, chosen)
                    self.assertEqual(
                        found.plain, (atoms, tuple(sorted((a, (b,), ()) for a in chosen for b in chosen if a != b))),
                    )
        self.assertEqual(Round(3, 2, 0).plain, (3, ((0, (2,), ()), (2, (0,), ()))))
        self.assertEqual(len(Round(4, 0, 1, 2, 3)), 12)

    def test_choice(self):
        for atoms in (2, 3, 4):
            for first, second in permutations(range(atoms), 2):
                found = Choice(atoms, first, second)
                self.assertEqual(found.plain, (atoms, ((first, (), (second,)), (second, (), (first,)))))

    def test_start(self):
        for atoms in (1, 2, 3):
            for facts in oracle.all_sets(atoms):
                for chosen in oracle.all_sets(atoms):
                    for members in permutations(chosen):
                        found = Start(atoms, *members, facts=facts)
                        self.assertEqual((found.members, found.facts), (chosen, facts))
                        rules = Facts(atoms, *facts).plain[1] + Round(atoms, *chosen).plain[1]
                        self.assertEqual(found.plain, (atoms, rules))
        self.assertEqual(
            Start(4, 3, 1, facts=(0, 1)).plain, (4, (ZERO, ONE, (1, (3,), ()), (3, (1,), ()))),
        )

    def test_start_without_facts(self):
        found = Start(3, 2, 1)
        self.assertEqual((found.members, found.facts), ((1, 2), ()))
        self.assertEqual(found.plain, Round(3, 1, 2).plain)
        self.assertEqual((Start(3).members, Start(3).facts, len(Start(3))), ((), (), 0))

    def test_members_are_tuples(self):
        for found in (Facts(3, 2, 0), Round(3, 2, 0), Start(3, 2, 0, facts=(1,)), Facts(1), Round(1), Start(1)):
            self.assertIs(type(found.members), tuple)
        self.assertIs(type(Start(3, facts=(1,)).facts), tuple)

    def test_atoms_error(self):
        for atoms in wrong.numbers_of_no_atoms():
            for found in (Facts, Round, Start):
                self.assert_error(AtomsError, found, atoms)
                self.assert_error(AtomsError, found, atoms, 0)
                self.assert_error(AtomsError, found, atoms, None, 7, 7)
            self.assert_error(AtomsError, Choice, atoms, 0, 1)
            self.assert_error(AtomsError, Choice, atoms, 0, 0)
            self.assert_error(AtomsError, lambda: Start(atoms, None, facts=None))
            self.assert_error(AtomsError, lambda: Start(atoms, facts=(7,)))

    def test_atom_error(self):
        for atom in [
            3, 4, -1, 10 ** 13 - 1, True, False, None, "0", "", (), (0,), [], [0], {}, 0.0, ZERO,
            *wrong.things_with_objects(),
        ]:
            for found in (Facts, Round, Start):
                self.assert_error(AtomError, found, 3, atom)
                self.assert_error(AtomError, found, 3, 0, atom)
                self.assert_error(AtomError, found, 3, atom, 0, atom)
            self.assert_error(AtomError, Choice, 3, atom, 2)
            self.assert_error(AtomError, Choice, 3, 2, atom)
            self.assert_error(AtomError, Choice, 3, atom, atom)
            self.assert_error(AtomError, lambda: Start(3, atom, facts=None))
        for atoms in (1, 2, 3, 4):
            for found in (Facts, Round, Start):
                self.assert_error(AtomError, found, atoms, atoms)
                self.assert_error(AtomError, found, atoms, *range(atoms + 1))

    def test_equal_members(self):
        for found in (Facts, Round, Start):
            for members in ((0, 0), (0, 1, 0), (1, 1), (2, 1, 0, 2), (0, 1, 2, 0, 1, 2), (0, False), (1, True)):
                self.assert_error(AtomError, found, 3, *members)
        for atoms in (1, 2, 3, 4):
            for atom in range(atoms):
                self.assert_error(AtomError, Choice, atoms, atom, atom)
        self.assert_error(AtomError, Choice, 1, 0, 1)
        self.assert_error(AtomError, lambda: Start(3, 1, 1, facts=(3,)))

    def test_set_error(self):
        for facts in wrong.no_sets():
            self.assert_error(SetError, lambda: Start(3, facts=facts))
            self.assert_error(SetError, lambda: Start(3, 1, 0, facts=facts))
        for atoms in (1, 2, 3, 4):
            self.assert_error(SetError, lambda: Start(atoms, 0, facts=(atoms,)))
        self.assert_error(SetError, lambda: Start(2, 0, facts=0))


class Kinds(Case):
    def test_each_class(self):
        for rules, expected in (
            (Rules(1), ("Rules",)), (Facts(1), ("Facts", "Rules")), (Round(2, 0, 1), ("Round", "Rules")),
            (Choice(2, 1, 0), ("Choice", "Rules")), (Start(1), ("Start", "Facts", "Round", "Rules")),
            (Start(3, 0, 1, facts=(2,)), ("Start", "Facts", "Round", "Rules")), (Own(1), ("Own", "Facts", "Rules")),
        ):
            self.assertEqual(rules.kinds(), expected)

    def test_as_python_looks_for_methods(self):
        for rules in every_class():
            self.assertEqual(rules.kinds(), tuple(found.__name__ for found in type(rules).__mro__[:-1]))

    def test_they_are_rules(self):
        for rules in every_class():
            self.assertIsInstance(rules, Rules)
        self.assertIsInstance(Start(1), Facts)
        self.assertIsInstance(Start(1), Round)
        self.assertNotIsInstance(Choice(2, 0, 1), Facts)
        self.assertNotIsInstance(Round(2), Facts)

    def test_what_rules_can_do(self):
        for rules in every_class():
            plain = rules_of(rules.plain)
            self.assertEqual(len(rules), len(plain))
            self.assertEqual(rules.atoms, 3)
            self.assertEqual([rules[at] for at in range(len(rules))], list(plain.plain[1]))
            for rule in oracle.all_rules(3):
                self.assertIs(rule in rules, rule in plain)


class Calls(Case):
    def test_equal_calls_give_equal_results(self):
        for rules in every_class():
            again = copy.deepcopy(rules)
            self.assertEqual(again, rules)
            self.assertEqual(repr(again), repr(rules))
            self.assertEqual(again.plain, rules.plain)
            self.assertEqual(again((0,)), rules((0,)))
            self.assertEqual(again.kinds(), rules.kinds())

    def test_arguments_stay_as_they_are(self):
        rules = rules_of(BOOK)
        for thing in ([3, []], [0, [], []], (0, [], []), [1], {0: [1]}):
            kept = repr(thing)
            self.assertIs(thing in rules, False)
            self.assertIs(rules == thing, False)
            self.assert_error(RuleError, Rules, 3, thing)
            self.assert_error(BookError, Rules.of, thing)
            self.assert_error(TextError, Rules.read, thing)
            self.assert_error(AtomError, Facts, 3, thing)
            self.assert_error(SetError, rules, thing)
            self.assert_error(BookError, lambda: rules | thing)
            self.assertEqual(repr(thing), kept)
        self.assertEqual(rules.plain, BOOK)
