"""The class Start: facts, and behind them the rules by which each of the members brings all others."""

from itertools import product

from defaultswaps.errors import AtomError, AtomsError, BookError, MatchError, NumberError, SetError
from defaultswaps.objects import Choice, Facts, Round, Rules, Start
from tests import oracle
from tests.case import Case

KINDS = ("Start", "Facts", "Round", "Rules")
ZERO, ONE, TWO = (0, (), ()), (1, (), ()), (2, (), ())


def round_rules(members):
    return tuple(sorted((a, (b,), ()) for a in members for b in members if a != b))


def book_of(atoms, members, facts):
    """The rulebook that [81] describes."""
    return (atoms, oracle.facts(atoms, facts)[1] + round_rules(members))


def values():
    """Atoms, members and facts: all for up to three atoms, and some for four; apart, overlapping and equal."""
    some = [(), (0,), (3,), (1, 2), (0, 2, 3), (0, 1, 2, 3)]
    small = [found for atoms in (1, 2, 3) for found in product([atoms], oracle.all_sets(atoms), oracle.all_sets(atoms))]
    return small + list(product([4], some, some))


def starts():
    """Each Start beside its rulebook, its members and its facts; the members are passed in descending order, too."""
    for atoms, members, facts in values():
        book = book_of(atoms, members, facts)
        yield Start(atoms, *members, facts=facts), book, members, facts
        yield Start(atoms, *members[::-1], facts=facts), book, members, facts
        if facts == ():
            yield Start(atoms, *members), book, members, facts


def reached(members, given):
    """The one settled set with the given facts: all members are there as soon as one is."""
    if set(members) & set(given):
        return tuple(sorted({*members, *given}))
    return given


class Created(Case):
    def test_what_it_has(self):
        for start, book, members, facts in starts():
            self.assertEqual(start.plain, book)
            self.assertEqual(start.members, members)
            self.assertEqual(start.facts, facts)
            self.assertEqual(start.atoms, book[0])
            self.assertEqual(len(start), len(facts) + len(members) * max(0, len(members) - 1))
            self.assertEqual(repr(start), f"Start({book[0]} atoms, {len(book[1])} rules)")
            self.assertEqual(start.kinds(), KINDS)

    def test_what_it_is(self):
        for start, book, members, facts in starts():
            self.assertIs(type(start), Start)
            for found in (Facts, Round, Rules):
                self.assertIsInstance(start, found)
            for value in (start.plain, start.plain[1], start.members, start.facts):
                self.assertIs(type(value), tuple)

    def test_written_out(self):
        pair = ((1, (2,), ()), (2, (1,), ()))
        for start, plain, members, facts, shown in (
            (Start(1), (1, ()), (), (), "Start(1 atoms, 0 rules)"),
            (Start(3, 1), (3, ()), (1,), (), "Start(3 atoms, 0 rules)"),
            (Start(3, 2, 1), (3, pair), (1, 2), (), "Start(3 atoms, 2 rules)"),
            (Start(3, facts=(0, 2)), (3, (ZERO, TWO)), (), (0, 2), "Start(3 atoms, 2 rules)"),
            (Start(3, 2, 1, facts=(0,)), (3, (ZERO, *pair)), (1, 2), (0,), "Start(3 atoms, 3 rules)"),
            (Start(3, 2, 1, facts=(0, 1)), (3, (ZERO, ONE, *pair)), (1, 2), (0, 1), "Start(3 atoms, 4 rules)"),
            (Start(3, 1, 2, facts=(1, 2)), (3, (ONE, TWO, *pair)), (1, 2), (1, 2), "Start(3 atoms, 4 rules)"),
            (Start(2, 1, facts=(1,)), (2, (ONE,)), (1,), (1,), "Start(2 atoms, 1 rules)"),
        ):
            self.assertEqual((start.plain, start.members, start.facts), (plain, members, facts))
            self.assertEqual((start.atoms, len(start), repr(start)), (plain[0], len(plain[1]), shown))

    def test_all_members_and_all_facts(self):
        start = Start(4, 3, 0, 2, 1, facts=(0, 1, 2, 3))
        self.assertEqual((start.members, start.facts, len(start)), ((0, 1, 2, 3), (0, 1, 2, 3), 16))
        self.assertEqual(start.plain[1][:5], ((0, (), ()), (1, (), ()), (2, (), ()), (3, (), ()), (0, (1,), ())))
        self.assertEqual(start.plain[1][-1], (3, (2,), ()))

    def test_rules_by_position_and_in(self):
        for start, book, _, _ in starts():
            self.assertEqual(tuple(start[at] for at in range(len(start))), book[1])
            self.assert_error(NumberError, lambda: start[len(start)])
            for rule in oracle.all_rules(2) + [(3, (), ()), (2, (1,), ()), (0, (2,), ()), (3, (0,), ())]:
                self.assertIs(rule in start, rule in book[1])

    def test_nothing_can_be_assigned(self):
        start = Start(3, 2, 1, facts=(0, 1))
        for name in ("plain", "atoms", "members", "facts"):
            with self.assertRaises(AttributeError):
                setattr(start, name, ())
        self.assertEqual((start.plain, start.members, start.facts), (book_of(3, (1, 2), (0, 1)), (1, 2), (0, 1)))


class BesideOthers(Case):
    def others(self, atoms):
        """Rules of all classes that share rules with some of the Starts."""
        found = [
            Rules(atoms), Rules(atoms, (None, (0,), ()), ZERO), Facts(atoms, 0), Facts(atoms, *range(atoms)),
            Round(atoms, *range(atoms)), Start(atoms, *range(atoms), facts=(0,)), Start(atoms, facts=(0,)),
        ]
        return found + ([Choice(atoms, 1, 0), Round(atoms, 1, 0), Start(atoms, 0, 1)] if atoms > 1 else [])

    def test_equal(self):
        for start, (atoms, rules), members, facts in starts():
            for order in (rules, rules[::-1], tuple(sorted(rules))):
                self.assertIs(start == Rules(atoms, *order), True)
                self.assertIs(Rules(atoms, *order) == start, True)
                self.assertIs(start != Rules(atoms, *order), False)
            self.assertIs(start == Start(atoms, *members[::-1], facts=facts), True)
            if facts == ():
                self.assertIs(start == Round(atoms, *members), True)
            if len(members) < 2:
                self.assertIs(Facts(atoms, *facts) == start, True)

    def test_not_equal(self):
        for start, (atoms, rules), members, facts in starts():
            for other in [Rules(atoms, *rules[:at], *rules[at + 1:]) for at in range(len(rules))]:
                self.assertIs(start == other, False)
                self.assertIs(other != start, True)
            self.assertIs(start == Rules(atoms, *rules, (None, (), ())), False)
            if atoms < 4:
                self.assertIs(start == Start(atoms + 1, *members, facts=facts), False)
            for thing in (None, True, atoms, members, facts, start.plain, rules, list(rules), repr(start), KINDS):
                self.assertIs(start == thing, False)
                self.assertIs(start != thing, True)

    def test_equal_to_others_only_with_the_same_rules(self):
        for start, book, _, _ in starts():
            for other in self.others(book[0]):
                self.assertIs(start == other, set(book[1]) == set(other.plain[1]))

    def test_union(self):
        for start, book, members, facts in starts():
            for other in self.others(book[0]):
                for found, plain in (
                    (start | other, oracle.union(book, other.plain)), (other | start, oracle.union(other.plain, book)),
                ):
                    self.assertIs(type(found), Rules)
                    self.assertEqual(found.plain, plain)
            self.assertEqual((start | start).plain, book)
            self.assertEqual((Facts(book[0], *facts) | Round(book[0], *members)).plain, book)
            self.assertEqual((start.plain, start.members, start.facts), (book, members, facts))

    def test_difference(self):
        for start, (atoms, rules), members, facts in starts():
            for other in self.others(atoms):
                theirs = other.plain[1]
                for found, left in (
                    (start - other, tuple(rule for rule in rules if rule not in theirs)),
                    (other - start, tuple(rule for rule in theirs if rule not in rules)),
                ):
                    self.assertIs(type(found), Rules)
                    self.assertEqual(found.plain, (atoms, left))
            self.assertEqual((start - start).plain, (atoms, ()))
            self.assertEqual((start - Facts(atoms, *facts)).plain, (atoms, round_rules(members)))
            self.assertEqual((start - Round(atoms, *members)).plain, oracle.facts(atoms, facts))
            self.assertEqual((start.plain, start.members, start.facts), ((atoms, rules), members, facts))

    def test_called(self):
        for start, book, members, facts in starts():
            for chosen in oracle.all_sets(book[0]):
                given = tuple(sorted({*facts, *chosen}))
                self.assertEqual(start(chosen), (reached(members, given),))

    def test_called_as_the_document_says_it_of_all_rules(self):
        for start, book, members, facts in starts():
            if book[0] < 4:
                for chosen in oracle.all_sets(book[0]):
                    expected = oracle.settled(oracle.union(book, oracle.facts(book[0], chosen)))
                    self.assertEqual(start(chosen), expected)

    def test_swaps(self):
        for start, book, members, facts in starts():
            for other in self.others(book[0]):
                answer = oracle.pairs(book) == oracle.pairs(other.plain)
                self.assertIs(start.swaps(other), answer)
                self.assertIs(other.swaps(start), answer)
            self.assertIs(start.swaps(Rules(book[0], *book[1][::-1])), True)

    def test_swaps_for_facts_if_one_of_the_members_is_a_fact(self):
        for start, book, members, facts in starts():
            alone = Facts(book[0], *reached(members, facts))
            self.assertIs(start.swaps(alone), len(members) < 2 or bool(set(members) & set(facts)))
            self.assertIs(start.swaps(Round(book[0], *members)), facts == ())

    def test_errors(self):
        for start, book, _, _ in starts():
            for thing in (None, 0, book, book[1], "Start"):
                self.assert_error(BookError, lambda: start | thing)
                self.assert_error(BookError, lambda: start - thing)
                self.assert_error(BookError, start.swaps, thing)
            other = Start(book[0] % 4 + 1, 0, facts=(0,))
            self.assert_error(MatchError, lambda: start | other)
            self.assert_error(MatchError, lambda: start - other)
            self.assert_error(MatchError, start.swaps, other)
            for chosen in (None, 0, [], (book[0],), (True,), (0, 0), (-1,)):
                self.assert_error(SetError, start, chosen)


class Order(Case):
    """AtomsError, then AtomError, then SetError."""

    NO_ATOMS = (0, 5, -1, True, None, "3", (3,), [3])
    NO_MEMBERS = ((3,), (0, -1), (True,), (None,), ("0",), ((0,),), (1, 1), (0, 1, 2, 0), (0, 1, 2, 3), ([],))
    NO_FACTS = (None, 0, True, "", "0", [], [0], {}, (3,), (-1,), (1, 0), (1, 1), (True,), (None,), ((0,),), (0, []))

    def test_one_is_wrong(self):
        for atoms in self.NO_ATOMS:
            self.assert_error(AtomsError, lambda: Start(atoms, 0, facts=(0,)))
            self.assert_error(AtomsError, lambda: Start(atoms))
        for members in self.NO_MEMBERS:
            self.assert_error(AtomError, lambda: Start(3, *members, facts=(0,)))
            self.assert_error(AtomError, lambda: Start(3, *members))
        for facts in self.NO_FACTS:
            self.assert_error(SetError, lambda: Start(3, 2, 0, facts=facts))
            self.assert_error(SetError, lambda: Start(3, facts=facts))

    def test_several_are_wrong(self):
        for atoms, members, facts in product(self.NO_ATOMS, self.NO_MEMBERS, self.NO_FACTS):
            self.assert_error(AtomsError, lambda: Start(atoms, *members, facts=facts))
            self.assert_error(AtomsError, lambda: Start(atoms, *members))
            self.assert_error(AtomsError, lambda: Start(atoms, facts=facts))
            self.assert_error(AtomError, lambda: Start(3, *members, facts=facts))

    def test_values_for_another_number_of_atoms(self):
        for atoms in (1, 2, 3):
            self.assert_error(AtomError, lambda: Start(atoms, atoms, facts=(atoms,)))
            self.assert_error(SetError, lambda: Start(atoms, atoms - 1, facts=(atoms,)))
            self.assertEqual(len(Start(atoms + 1, atoms, facts=(atoms,))), 1)

    def test_facts_are_passed_by_name(self):
        self.assert_error(AtomError, lambda: Start(3, 0, 1, (2,)))

    def test_arguments_stay_as_they_are(self):
        members, facts = [2, 0], [0, 1]
        self.assert_error(SetError, lambda: Start(3, *members, facts=facts))
        self.assert_error(AtomError, lambda: Start(3, members, facts=(0,)))
        self.assertEqual((members, facts), ([2, 0], [0, 1]))
