"""Pairs of sets that fit a rulebook, and the tables that they make."""

from defaultswaps.errors import LimitError, TableError
from defaultswaps.rules import check_atoms, check_book, is_ascending, is_set
from defaultswaps.rules import is_tuple_of, is_within, obeys, remains

MOST_ATOMS_LISTED = 2


def selections(things):
    """Return the tuples of some of the things, in their order; the tuples ascend."""
    found = [()]
    for thing in things:
        found = found + [(*chosen, thing) for chosen in found]
    return sorted(found)


def all_sets(atoms):
    return selections(tuple(range(atoms)))


def all_pairs(atoms):
    return sorted([(small, large) for large in all_sets(atoms) for small in selections(large)])


def is_pair(atoms, thing):
    if not is_tuple_of(2, thing):
        return False
    small, large = thing
    return is_set(atoms, small) and is_set(atoms, large) and is_within(small, large)


def are_pairs(atoms, thing):
    return isinstance(thing, tuple) and all([is_pair(atoms, part) for part in thing])


def fits_rule(pair, rule):
    small, large = pair
    if not remains(rule, large):
        return True
    return obeys(large, rule) and obeys(small, rule)


def fits_rules(pair, rules):
    return all([fits_rule(pair, rule) for rule in rules])


def pairs(book):
    check_book(book)
    atoms, rules = book
    return tuple([pair for pair in all_pairs(atoms) if fits_rules(pair, rules)])


def fits(book, thing):
    check_book(book)
    atoms, rules = book
    return is_pair(atoms, thing) and fits_rules(thing, rules)


def is_table(atoms, thing):
    check_atoms(atoms)
    return are_pairs(atoms, thing) and is_ascending(thing) and is_closed(thing)


def is_closed(found):
    """Tell whether an ascending tuple of pairs has what a table must have besides."""
    return has_tops(found) and has_larger(found) and has_common(found)


def has_tops(found):
    return all([(large, large) in found for small, large in found])


def has_larger(found):
    tops = [large for small, large in found if small == large]
    return all([(small, top) in found for small, large in found for top in tops if is_within(large, top)])


def has_common(found):
    return all([
        (common_part(one, other), large) in found
        for one, large in found for other, top in found if top == large
    ])


def common_part(one, other):
    return tuple([atom for atom in one if atom in other])


def rules_of(atoms, table):
    if not is_table(atoms, table):
        raise TableError("not a table")
    rules = []
    for large in all_sets(atoms):
        rules = rules + rules_at(atoms, table, large)
    return (atoms, tuple(rules))


def rules_at(atoms, table, large):
    """Return the rules that leave to the set large just its pairs of the table."""
    others = tuple([atom for atom in range(atoms) if atom not in large])
    if (large, large) not in table:
        return [(None, large, others)]
    return [
        (forced_atom(table, small, large), small, others)
        for small in selections(large) if (small, large) not in table
    ]


def forced_atom(table, small, large):
    # There is one: the common part of the sets above is among them, and small is not.
    above = [wide for wide, top in table if top == large and is_within(small, wide)]
    return min([atom for atom in large if atom not in small and all([atom in part for part in above])])


def tables(atoms):
    check_atoms(atoms)
    if atoms > MOST_ATOMS_LISTED:
        raise LimitError(atoms, MOST_ATOMS_LISTED)
    for found in selections(all_pairs(atoms)):
        if is_closed(found):
            yield found
