"""Rulebooks as texts."""

from defaultswaps.errors import TextError
from defaultswaps.rules import check_book, is_rulebook

# Just these words are numbers in a text, so that no sign and no leading zero is read.
NUMBERS = ("0", "1", "2", "3", "4")


def book_text(book):
    check_book(book)
    atoms, rules = book
    lines = [f"atoms {atoms}"] + [rule_line(rule) for rule in rules]
    return "".join([line + "\n" for line in lines])


def rule_line(rule):
    head, holds, fails = rule
    start = "none" if head is None else str(head)
    return start + clause(" if ", holds) + clause(" not ", fails)


def clause(start, chosen):
    if not chosen:
        return ""
    return start + " ".join([str(atom) for atom in chosen])


def read_book(text):
    if not isinstance(text, str):
        raise TextError("not a text")
    lines = text.split("\n")
    book = (atoms_in(lines[0]), tuple([rule_in(line) for line in lines[1:-1]]))
    # The lines are read loosely; that the text is the one of the book is what counts.
    if not is_rulebook(book) or book_text(book) != text:
        raise TextError("not the text of a rulebook")
    return book


def atoms_in(line):
    return number_in(line.removeprefix("atoms "))


def rule_in(line):
    """Return the rule of a line, or anything that is not the rule of this line if it has none."""
    parts = line.partition(" not ")
    start = parts[0].partition(" if ")
    return (number_in(start[0]), numbers_in(start[2]), numbers_in(parts[2]))


def numbers_in(words):
    return tuple([number_in(word) for word in words.split(" ") if word])


def number_in(word):
    return NUMBERS.index(word) if word in NUMBERS else None
