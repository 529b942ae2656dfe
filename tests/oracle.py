"""The words of the document, written down a second time over Python's frozensets.

Nothing here imports the package: what the tests expect does not rest on what they test.
"""

import random
from itertools import combinations, product


def subsets(things):
    things = tuple(things)
    return sorted(found for size in range(len(things) + 1) for found in combinations(things, size))


def all_sets(atoms):
    return subsets(range(atoms))


def all_pairs(atoms):
    sets = all_sets(atoms)
    return sorted((x, y) for x, y in product(sets, sets) if frozenset(x) <= frozenset(y))


def all_rules(atoms):
    sets = all_sets(atoms)
    return [rule for rule in product((*range(atoms), None), sets, sets)]


def remains(rule, chosen):
    return frozenset(rule[2]).isdisjoint(chosen)


def obeys(chosen, rule):
    head, holds, _ = rule
    if not frozenset(holds) <= frozenset(chosen):
        return True
    return head is not None and head in chosen


def violates(chosen, rule):
    return remains(rule, chosen) and not obeys(chosen, rule)


def least(book, chosen):
    atoms, rules = book
    asked = [rule for rule in rules if remains(rule, chosen) and rule[0] is not None]
    obeying = [found for found in all_sets(atoms) if all(obeys(found, rule) for rule in asked)]
    (answer,) = [found for found in obeying if all(frozenset(found) <= frozenset(z) for z in obeying)]
    return answer


def fits(book, pair):
    x, y = pair
    for rule in book[1]:
        if violates(y, rule) or (remains(rule, y) and not obeys(x, rule)):
            return False
    return True


def pairs(book):
    return tuple(pair for pair in all_pairs(book[0]) if fits(book, pair))


def is_closed(found):
    found = {(frozenset(x), frozenset(y)) for x, y in found}
    for x, y in found:
        if (y, y) not in found:
            return False
        for w, z in found:
            if w == z and y <= z and (x, z) not in found:
                return False
            if z == y and (x & w, y) not in found:
                return False
    return True


def tables(atoms):
    return [found for found in subsets(all_pairs(atoms)) if is_closed(found)]


def rules_of(atoms, table):
    rules = []
    for y in all_sets(atoms):
        rest = tuple(a for a in range(atoms) if a not in y)
        if (y, y) not in table:
            rules.append((None, y, rest))
            continue
        for x in subsets(y):
            if (x, y) not in table:
                wide = [frozenset(w) for w, z in table if z == y and frozenset(x) <= frozenset(w)]
                rules.append((min(frozenset.intersection(*wide) - frozenset(x)), x, rest))
    return (atoms, tuple(rules))


def books_of_one_atom():
    """All rulebooks with one atom, their rules in one order each."""
    return [(1, rules) for rules in subsets_in_order(all_rules(1))]


def subsets_in_order(things):
    return [found for size in range(len(things) + 1) for found in combinations(things, size)]


def sample_books(many=60):
    """Rulebooks with two to four atoms, of very different lengths; always the same ones."""
    source = random.Random(20)
    books = [(atoms, ()) for atoms in (1, 2, 3, 4)]
    for atoms in (2, 3, 4):
        rules = all_rules(atoms)
        longest = min(100, len(rules))
        for k in range(many):
            length = longest if k == 0 else source.choice((1, 2, 3, 4, 5, 7, 10, 20, 40))
            books.append((atoms, tuple(source.sample(rules, length))))
    return books


def many_books():
    return books_of_one_atom() + sample_books()
