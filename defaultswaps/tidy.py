"""What follows from rules, and what can be left out of them."""

from defaultswaps.pairs import all_pairs, fits_rule, pairs
from defaultswaps.rules import check_book, check_rule


def counter(book, rule):
    check_book(book)
    check_rule(book[0], rule)
    against = [pair for pair in pairs(book) if not fits_rule(pair, rule)]
    return against[0] if against else None


def barred(every, rule):
    """Return a number with a bit for each of the pairs: 1 if the pair does not fit the rule."""
    bits = 0
    for pair in every:
        bits = bits * 2 + (0 if fits_rule(pair, rule) else 1)
    return bits


def marked(every, rules):
    """Return each rule with its number, so that the numbers need not be found again at every step."""
    return tuple([(rule, barred(every, rule)) for rule in rules])


def barred_by_any(rows):
    """Return one number for all rules; if it is the same for others, the same pairs fit."""
    found = 0
    for rule, bits in rows:
        found = found | bits
    return found


def without_row(rows, at):
    return rows[:at] + rows[at + 1:]


def needless(book):
    check_book(book)
    atoms, rules = book
    rows = marked(all_pairs(atoms), rules)
    found = barred_by_any(rows)
    return tuple([rule for at, rule in enumerate(rules) if barred_by_any(without_row(rows, at)) == found])


def tidy(book):
    check_book(book)
    atoms, rules = book
    every = all_pairs(atoms)
    rows = marked(every, rules)
    less = one_step(every, rows)
    while less != rows:
        rows = less
        less = one_step(every, rows)
    return (atoms, tuple([rule for rule, bits in rows]))


def is_tidy(book):
    check_book(book)
    atoms, rules = book
    every = all_pairs(atoms)
    rows = marked(every, rules)
    return one_step(every, rows) == rows


def one_step(every, rows):
    """Return what is left when one rule or one atom is left out; the rows themselves if none can be."""
    found = barred_by_any(rows)
    for at in range(len(rows)):
        less = without_row(rows, at)
        if barred_by_any(less) == found:
            return less
    # No rule becomes equal to another one here: a rule with an atom less bars more,
    # so the rule with this atom would be needless beside that other one.
    for at, (rule, bits) in enumerate(rows):
        for row in marked(every, shorter_rules(rule)):
            less = (*rows[:at], row, *rows[at + 1:])
            if barred_by_any(less) == found:
                return less
    return rows


def shorter_rules(rule):
    """Return the rules with one atom less, in the order in which they are tried."""
    head, holds, fails = rule
    by_holds = [(head, without_atom(holds, atom), fails) for atom in holds]
    by_fails = [(head, holds, without_atom(fails, atom)) for atom in fails]
    return by_holds + by_fails


def without_atom(chosen, left_out):
    return tuple([atom for atom in chosen if atom != left_out])
