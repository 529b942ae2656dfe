"""Whether rules can be swapped for others whatever further rules stand beside them."""

from defaultswaps.errors import MatchError
from defaultswaps.pairs import all_pairs, are_pairs, pairs
from defaultswaps.rules import check_book, facts_of, is_rulebook, is_set, is_tuple_of, round_of
from defaultswaps.settled import settled_sets, settles


def check_match(books):
    for book in books:
        check_book(book)
    if any([book[0] != books[0][0] for book in books]):
        raise MatchError("different numbers of atoms")


def union(first, second):
    """Return the rules of both, each once; they may be more than a rulebook has."""
    found = first
    for rule in second:
        if rule not in found:
            found = (*found, rule)
    return found


def settled_beside(book, rules):
    """Return the settled sets of a rulebook with further rules beside it."""
    return settled_sets(book[0], union(book[1], rules))


def tells_apart(one, other, rules, chosen):
    """Tell whether chosen is settled in just one of the rulebooks with the rules beside them."""
    return settles(union(one[1], rules), chosen) != settles(union(other[1], rules), chosen)


def can_be_swapped(one, other):
    check_match([one, other])
    return pairs(one) == pairs(other)


def compare(one, other):
    check_match([one, other])
    first, second = pairs(one), pairs(other)
    if first == second:
        return ("same", first)
    atoms = one[0]
    apart_at = [pair for pair in all_pairs(atoms) if (pair in first) != (pair in second)]
    small, large = apart_at[0]
    if (large, large) in apart_at:
        return ("differ", (atoms, facts_of(large)), large)
    outside = [atom for atom in large if atom not in small]
    return ("differ", (atoms, facts_of(small) + round_of(outside)), large)


def shows_compare(one, other, thing):
    check_match([one, other])
    if is_tuple_of(2, thing):
        word, table = thing
        return word == "same" and are_pairs(one[0], table) and pairs(one) == table == pairs(other)
    if is_tuple_of(3, thing):
        word, context, chosen = thing
        return word == "differ" and shows_difference(one, other, context, chosen)
    return False


def shows_difference(one, other, context, chosen):
    atoms = one[0]
    if not is_rulebook(context) or context[0] != atoms or not is_set(atoms, chosen):
        return False
    return tells_apart(one, other, context[1], chosen)


def apart(one, other, context):
    check_match([one, other, context])
    first = settled_beside(one, context[1])
    second = settled_beside(other, context[1])
    return (left_over(first, second), left_over(second, first))


def left_over(found, taken):
    return tuple([chosen for chosen in found if chosen not in taken])
