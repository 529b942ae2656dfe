"""Atoms, sets, rules and rulebooks, and what a set makes of the rules."""

from defaultswaps.errors import AtomsError, BookError, LimitError, RuleError, SetError

MOST_ATOMS = 4
MOST_RULES = 100


def is_whole(thing):
    """Tell whether thing is an integer; to Python a bool is one, here it is none."""
    return isinstance(thing, int) and not isinstance(thing, bool)


def is_tuple_of(length, thing):
    return isinstance(thing, tuple) and len(thing) == length


def is_ascending(things):
    return all([low < high for low, high in zip(things, things[1:])])


def is_atoms(thing):
    return is_whole(thing) and 1 <= thing <= MOST_ATOMS


def is_atom(atoms, thing):
    return is_whole(thing) and 0 <= thing < atoms


def is_set(atoms, thing):
    if not isinstance(thing, tuple):
        return False
    # The order is asked only of atoms: other values may not be comparable.
    return all([is_atom(atoms, part) for part in thing]) and is_ascending(thing)


def has_rule_form(atoms, thing):
    """Tell whether thing is a rule, for a number of atoms that is known to be one."""
    if not is_tuple_of(3, thing):
        return False
    head, holds, fails = thing
    if not (head is None or is_atom(atoms, head)):
        return False
    return is_set(atoms, holds) and is_set(atoms, fails)


def are_rules(atoms, things):
    """Tell whether things, a tuple, are different rules."""
    if not all([has_rule_form(atoms, thing) for thing in things]):
        return False
    return len(set(things)) == len(things)


def is_rulebook(thing):
    if not is_tuple_of(2, thing):
        return False
    atoms, rules = thing
    if not is_atoms(atoms) or not isinstance(rules, tuple):
        return False
    return len(rules) <= MOST_RULES and are_rules(atoms, rules)


def is_rule(atoms, thing):
    check_atoms(atoms)
    return has_rule_form(atoms, thing)


def check_atoms(thing):
    if not is_atoms(thing):
        raise AtomsError("not a number of atoms")


def check_book(thing):
    if not is_rulebook(thing):
        raise BookError("not a rulebook")


def check_set(atoms, thing):
    if not is_set(atoms, thing):
        raise SetError("not a set of the atoms")


def check_rule(atoms, thing):
    if not has_rule_form(atoms, thing):
        raise RuleError("not a rule for these atoms")


def check_amount(rules):
    """Raise an error for more rules, all of them different, than a rulebook has."""
    if len(rules) > MOST_RULES:
        raise LimitError(len(rules), MOST_RULES)


def check_book_and_set(book, chosen):
    check_book(book)
    check_set(book[0], chosen)


def is_rule_of(book, thing):
    # Its form comes first: to Python a rule with a bool equals one with an integer.
    return has_rule_form(book[0], thing) and thing in book[1]


def facts_of(chosen):
    return tuple([(atom, (), ()) for atom in chosen])


def round_of(members):
    """Return the rules by which each of the members brings all others."""
    return tuple([(head, (atom,), ()) for head in members for atom in members if head != atom])


def is_within(small, large):
    return all([atom in large for atom in small])


def remains(rule, chosen):
    return not any([atom in chosen for atom in rule[2]])


def obeys(chosen, rule):
    # Without a head the first test fails by itself, as None is in no set.
    return rule[0] in chosen or not is_within(rule[1], chosen)


def violates(chosen, rule):
    return remains(rule, chosen) and not obeys(chosen, rule)


def remaining(book, chosen):
    check_book_and_set(book, chosen)
    return tuple([rule for rule in book[1] if remains(rule, chosen)])


def violated(book, chosen):
    check_book_and_set(book, chosen)
    return tuple([rule for rule in book[1] if violates(chosen, rule)])


def least(book, chosen):
    check_book_and_set(book, chosen)
    return least_at(book[1], chosen)


def least_at(rules, chosen):
    """Return the least set for rules of any number: a union may have more than a rulebook."""
    return least_obeying([rule for rule in rules if rule[0] is not None and remains(rule, chosen)])


def least_obeying(rules):
    """Return the least set that obeys these rules, all of which have a head."""
    reached = ()
    heads = heads_due(rules, reached)
    while heads:
        reached = tuple(sorted([*reached, *heads]))
        heads = heads_due(rules, reached)
    return reached


def heads_due(rules, reached):
    return sorted({rule[0] for rule in rules if not obeys(reached, rule)})
