"""Settled sets, the reasons why a set is settled or not, and rules for given settled sets."""

from defaultswaps.errors import SetsError
from defaultswaps.pairs import all_sets, fits, rules_of
from defaultswaps.rules import check_atoms, check_book, check_book_and_set, is_ascending, is_rule_of, is_set
from defaultswaps.rules import is_tuple_of, is_within, least, least_at, remains, violated, violates


def settles(rules, chosen):
    """Tell whether chosen is settled by rules of any number: a union may have more than a rulebook."""
    if any([violates(chosen, rule) for rule in rules]):
        return False
    return least_at(rules, chosen) == chosen


def settled_sets(atoms, rules):
    return tuple([chosen for chosen in all_sets(atoms) if settles(rules, chosen)])


def settled(book):
    check_book(book)
    atoms, rules = book
    yield from settled_sets(atoms, rules)


def is_settled(book, chosen):
    check_book_and_set(book, chosen)
    return settles(book[1], chosen)


def reason(book, chosen):
    broken = violated(book, chosen)
    if broken:
        return ("violated", broken[0])
    lowest = least(book, chosen)
    if lowest != chosen:
        return ("smaller", lowest)
    return ("settled", order_taken(book[1], chosen))


def order_taken(rules, chosen):
    """Return the rules that bring a settled set, each time the first one that can be taken."""
    left = [rule for rule in rules if remains(rule, chosen)]
    order = ()
    # A settled set violates no rule: no head that is taken lies outside of it, and none is None.
    while len(order) < len(chosen):
        order = (*order, first_behind(order, left))
    return order


def first_behind(order, rules):
    heads = [rule[0] for rule in order]
    following = [rule for rule in rules if can_follow(heads, rule)]
    return following[0]


def can_follow(heads, rule):
    """Tell whether a rule can be taken when rules with these heads have been."""
    return rule[0] not in heads and is_within(rule[1], heads)


def shows(book, chosen, thing):
    check_book_and_set(book, chosen)
    if not is_tuple_of(2, thing):
        return False
    word, shown = thing
    if word == "violated":
        return is_rule_of(book, shown) and violates(chosen, shown)
    if word == "settled":
        return not violated(book, chosen) and is_order(book, chosen, shown)
    return word == "smaller" and shown != chosen and fits(book, (shown, chosen))


def is_order(book, chosen, thing):
    """Tell whether thing is a tuple of rules that bring just the atoms of chosen, each once."""
    if not is_tuple_of(len(chosen), thing):
        return False
    if not all([is_rule_of(book, part) and remains(part, chosen) for part in thing]):
        return False
    heads = [rule[0] for rule in thing]
    if not all([can_follow(heads[:at], rule) for at, rule in enumerate(thing)]):
        return False
    # They are different and as many as the atoms.
    return is_within(chosen, heads)


def rules_settling(atoms, sets):
    check_atoms(atoms)
    if not can_be_settled(atoms, sets):
        raise SetsError("not an ascending tuple of sets, none within another one")
    # With no other pair than these just these sets are settled.
    return rules_of(atoms, tuple([(chosen, chosen) for chosen in sets]))


def can_be_settled(atoms, thing):
    if not isinstance(thing, tuple) or not all([is_set(atoms, part) for part in thing]):
        return False
    return is_ascending(thing) and not any([
        is_within(small, large) for small in thing for large in thing if small != large
    ])
