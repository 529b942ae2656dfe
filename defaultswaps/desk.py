"""A desk: a rulebook that changes."""

from defaultswaps.errors import NothingError, RuleError
from defaultswaps.rules import check_amount, check_book, check_rule, is_rule_of
from defaultswaps.settled import settled_sets
from defaultswaps.swaps import can_be_swapped, check_match, union


def book_with(book, rules):
    """Return the rulebook with further rules behind its own, each of them once."""
    atoms, before = book
    for rule in rules:
        check_rule(atoms, rule)
    found = union(before, rules)
    check_amount(found)
    return (atoms, found)


class Supposed:
    """A block within which a desk has further rules."""

    def __init__(self, desk, rules):
        self.desk = desk
        self.further = rules

    def __enter__(self):
        supposed = book_with(self.desk.kept, self.further)
        self.kept = self.desk.kept
        self.past = self.desk.past
        self.desk.kept = supposed
        return self.desk

    def __exit__(self, kind, value, trace):
        self.desk.kept = self.kept
        self.desk.past = self.past


class Desk:
    """Keeps a rulebook, and for each change that was not taken back the rulebook before it."""

    def __init__(self, book):
        check_book(book)
        self.kept = book
        self.past = ()

    @property
    def book(self):
        return self.kept

    @book.setter
    def book(self, value):
        self.assign_book(value)

    @property
    def changes(self):
        return len(self.past)

    @property
    def settled(self):
        return settled_sets(self.kept[0], self.kept[1])

    def assign_book(self, book):
        check_match([self.kept, book])
        self.change_to(book)

    def change_to(self, book):
        self.past = (*self.past, self.kept)
        self.kept = book

    def add(self, rule):
        if is_rule_of(self.kept, rule):
            raise RuleError("the rule is there")
        self.change_to(book_with(self.kept, (rule,)))

    def drop(self, rule):
        if not is_rule_of(self.kept, rule):
            raise RuleError("the rule is not there")
        atoms, rules = self.kept
        self.change_to((atoms, tuple([other for other in rules if other != rule])))

    def undo(self):
        if not self.past:
            raise NothingError("no change to take back")
        self.kept = self.past[-1]
        self.past = self.past[:-1]

    def swapped(self, other):
        return can_be_swapped(self.kept, other)

    def supposing(self, *rules):
        # The errors come at the call, not only when the block is entered.
        book_with(self.kept, rules)
        return Supposed(self, rules)

    def settled_supposing(self, *rules):
        atoms, supposed = book_with(self.kept, rules)
        return settled_sets(atoms, supposed)
