"""Rulebooks as objects."""

from defaultswaps.errors import AtomError, BookError, MatchError, NumberError, RuleError
from defaultswaps.facts import settled_with
from defaultswaps.rules import MOST_ATOMS, are_rules, check_amount, check_atoms, check_book, check_set
from defaultswaps.rules import facts_of, is_atom, is_rule_of, is_whole, round_of
from defaultswaps.swaps import can_be_swapped, union
from defaultswaps.texts import read_book


class Rules:
    """The rules of a rulebook; they do not change."""

    MOST = 100

    def __init__(self, atoms, *rules):
        check_atoms(atoms)
        if not are_rules(atoms, rules):
            raise RuleError("not different rules for these atoms")
        check_amount(rules)
        self.width = atoms
        self.rows = rules

    @classmethod
    def of(cls, book):
        check_book(book)
        atoms, rules = book
        # Not the class of the call: those below are created with other values.
        return Rules(atoms, *rules)

    @classmethod
    def read(cls, text):
        return Rules.of(read_book(text))

    @staticmethod
    def fact(atom):
        if not is_atom(MOST_ATOMS, atom):
            raise AtomError("not an atom")
        return (atom, (), ())

    @property
    def plain(self):
        return (self.width, self.rows)

    @property
    def atoms(self):
        return self.width

    def kinds(self):
        return ("Rules",)

    def swaps(self, other):
        check_rules_beside(self, other)
        return can_be_swapped(self.plain, other.plain)

    def __len__(self):
        return len(self.rows)

    def __getitem__(self, at):
        if not is_whole(at) or not 0 <= at < len(self.rows):
            raise NumberError("not the position of a rule")
        return self.rows[at]

    # Without this, Python would ask for one position after the other until there is none.
    def __iter__(self):
        raise TypeError("take the rules by their positions, or those of plain")

    def __contains__(self, x):
        return is_rule_of(self.plain, x)

    def __or__(self, other):
        check_rules_beside(self, other)
        rules = union(self.rows, other.rows)
        return Rules(self.width, *rules)

    def __sub__(self, other):
        check_rules_beside(self, other)
        rules = tuple([rule for rule in self.rows if rule not in other.rows])
        return Rules(self.width, *rules)

    def __call__(self, chosen):
        return settled_with(self.plain, chosen)

    def __eq__(self, other):
        return isinstance(other, Rules) and self.width == other.width and set(self.rows) == set(other.rows)

    def __repr__(self):
        return f"{self.kinds()[0]}({self.width} atoms, {len(self.rows)} rules)"


def check_rules_beside(rules, thing):
    if not isinstance(thing, Rules):
        raise BookError("not rules as an object")
    if thing.width != rules.width:
        raise MatchError("different numbers of atoms")


def check_members(atoms, members):
    check_atoms(atoms)
    if not all([is_atom(atoms, member) for member in members]) or len(set(members)) < len(members):
        raise AtomError("not different atoms")


class Facts(Rules):
    """The facts of some atoms."""

    def __init__(self, atoms, *members):
        check_members(atoms, members)
        self.ordered = tuple(sorted(members))
        rules = facts_of(self.ordered)
        Rules.__init__(self, atoms, *rules)

    @property
    def members(self):
        return self.ordered

    def kinds(self):
        return ("Facts",) + super().kinds()


class Round(Rules):
    """The rules by which each of some atoms brings all others of them."""

    def __init__(self, atoms, *members):
        check_members(atoms, members)
        self.ordered = tuple(sorted(members))
        rules = round_of(self.ordered)
        Rules.__init__(self, atoms, *rules)

    @property
    def members(self):
        return self.ordered

    def kinds(self):
        return ("Round",) + super().kinds()


class Choice(Rules):
    """Two rules each of which holds unless the other one does."""

    def __init__(self, atoms, first, second):
        check_members(atoms, (first, second))
        Rules.__init__(self, atoms, (first, (), (second,)), (second, (), (first,)))

    def kinds(self):
        return ("Choice",) + super().kinds()


class Start(Facts, Round):
    """Facts, and behind them the rules by which each of the members brings all others."""

    def __init__(self, atoms, *members, facts=()):
        # Not that of Facts, too: it would take the members for the facts.
        Round.__init__(self, atoms, *members)
        # Behind the members: their errors come first.
        check_set(atoms, facts)
        self.given = facts
        self.rows = facts_of(facts) + self.rows

    @property
    def members(self):
        return self.ordered

    @property
    def facts(self):
        return self.given

    def kinds(self):
        return ("Start",) + super().kinds()
