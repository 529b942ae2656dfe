"""Whether rules can be swapped for others if only facts stand beside them."""

from defaultswaps.pairs import all_sets, are_pairs, pairs, selections
from defaultswaps.rules import check_book_and_set, facts_of, is_set, is_tuple_of, is_within
from defaultswaps.swaps import check_match, settled_beside, tells_apart


def kernel(book):
    found = pairs(book)
    return tuple([pair for pair in found if not has_between(found, pair)])


def has_between(found, pair):
    """Tell whether a set between those of the pair, other than both, makes a pair with the larger one."""
    small, large = pair
    return any([
        top == large and is_within(small, middle) and middle != small and middle != large
        for middle, top in found
    ])


def compare_by_facts(one, other):
    check_match([one, other])
    for chosen in all_sets(one[0]):
        # Other facts need no look: a set violates each fact outside of it, in both rulebooks.
        for facts in selections(chosen):
            if tells_apart(one, other, facts_of(facts), chosen):
                return ("differ", facts, chosen)
    return ("same", kernel(one))


def shows_by_facts(one, other, thing):
    check_match([one, other])
    atoms = one[0]
    if is_tuple_of(2, thing):
        word, found = thing
        return word == "same" and are_pairs(atoms, found) and kernel(one) == found == kernel(other)
    if is_tuple_of(3, thing):
        word, facts, chosen = thing
        if word != "differ" or not is_set(atoms, facts) or not is_set(atoms, chosen):
            return False
        return tells_apart(one, other, facts_of(facts), chosen)
    return False


def settled_with(book, facts):
    check_book_and_set(book, facts)
    return settled_beside(book, facts_of(facts))
