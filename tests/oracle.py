"""The words of the document, written down a second time over Python's frozensets.

Nothing here imports the package: what the tests expect does not rest on what they test.
"""

import random
import re
from functools import lru_cache
from itertools import combinations, permutations, product


def subsets(things):
    things = tuple(things)
    return sorted(found for size in range(len(things) + 1) for found in combinations(things, size))


def all_sets(atoms):
    return subsets(range(atoms))


def all_pairs(atoms):
    sets = all_sets(atoms)
    return sorted((x, y) for x, y in product(sets, sets) if frozenset(x) <= frozenset(y))


def all_rules(atoms):
    sets = all_sets(atoms)
    return [rule for rule in product((*range(atoms), None), sets, sets)]


def remains(rule, chosen):
    return frozenset(rule[2]).isdisjoint(chosen)


def obeys(chosen, rule):
    head, holds, _ = rule
    if not frozenset(holds) <= frozenset(chosen):
        return True
    return head is not None and head in chosen


def violates(chosen, rule):
    return remains(rule, chosen) and not obeys(chosen, rule)


def least(book, chosen):
    atoms, rules = book
    asked = [rule for rule in rules if remains(rule, chosen) and rule[0] is not None]
    obeying = [found for found in all_sets(atoms) if all(obeys(found, rule) for rule in asked)]
    (answer,) = [found for found in obeying if all(frozenset(found) <= frozenset(z) for z in obeying)]
    return answer


def fits(book, pair):
    x, y = pair
    for rule in book[1]:
        if violates(y, rule) or (remains(rule, y) and not obeys(x, rule)):
            return False
    return True


@lru_cache(maxsize=None)
def pairs(book):
    return tuple(pair for pair in all_pairs(book[0]) if fits(book, pair))


def is_closed(found):
    found = {(frozenset(x), frozenset(y)) for x, y in found}
    for x, y in found:
        if (y, y) not in found:
            return False
        for w, z in found:
            if w == z and y <= z and (x, z) not in found:
                return False
            if z == y and (x & w, y) not in found:
                return False
    return True


def tables(atoms):
    return [found for found in subsets(all_pairs(atoms)) if is_closed(found)]


def rules_of(atoms, table):
    rules = []
    for y in all_sets(atoms):
        rest = tuple(a for a in range(atoms) if a not in y)
        if (y, y) not in table:
            rules.append((None, y, rest))
            continue
        for x in subsets(y):
            if (x, y) not in table:
                wide = [frozenset(w) for w, z in table if z == y and frozenset(x) <= frozenset(w)]
                rules.append((min(frozenset.intersection(*wide) - frozenset(x)), x, rest))
    return (atoms, tuple(rules))


def union(one, other):
    return (one[0], one[1] + tuple(rule for rule in other[1] if rule not in one[1]))


def facts(atoms, chosen):
    return (atoms, tuple((a, (), ()) for a in chosen))


@lru_cache(maxsize=None)
def is_settled(book, chosen):
    return least(book, chosen) == chosen and not any(violates(chosen, rule) for rule in book[1])


def settled(book):
    return tuple(found for found in all_sets(book[0]) if is_settled(book, found))


def reason(book, chosen):
    for rule in book[1]:
        if violates(chosen, rule):
            return ("violated", rule)
    if least(book, chosen) != chosen:
        return ("smaller", least(book, chosen))
    order = []
    while {rule[0] for rule in order} != set(chosen):
        for rule in book[1]:
            heads = {taken[0] for taken in order}
            if remains(rule, chosen) and rule[0] is not None and rule[0] not in heads and set(rule[1]) <= heads:
                order.append(rule)
                break
    return ("settled", tuple(order))


def orders(book, chosen):
    """All tuples that [21] allows behind "settled"."""
    if any(violates(chosen, rule) for rule in book[1]):
        return []
    left = [rule for rule in book[1] if remains(rule, chosen) and rule[0] in chosen]
    found = []
    for order in permutations(left, len(chosen)):
        heads = [rule[0] for rule in order]
        if sorted(heads) == list(chosen) and all(set(rule[1]) <= set(heads[:k]) for k, rule in enumerate(order)):
            found.append(order)
    return found


def smaller(book, chosen):
    return [x for x in all_sets(book[0]) if set(x) < set(chosen) and fits(book, (x, chosen))]


def reasons(book, chosen):
    """Everything that `shows` accepts."""
    return [
        *[("violated", rule) for rule in book[1] if violates(chosen, rule)],
        *[("settled", order) for order in orders(book, chosen)],
        *[("smaller", x) for x in smaller(book, chosen)],
    ]


def compare(one, other):
    if pairs(one) == pairs(other):
        return ("same", pairs(one))
    atoms = one[0]
    x, y = min(set(pairs(one)) ^ set(pairs(other)))
    if fits(one, (y, y)) != fits(other, (y, y)):
        return ("differ", facts(atoms, y), y)
    rest = sorted(set(y) - set(x))
    rules = tuple((a, (b,), ()) for a in rest for b in rest if a != b)
    return ("differ", (atoms, facts(atoms, x)[1] + rules), y)


def differ(one, other, context, chosen):
    return is_settled(union(one, context), chosen) != is_settled(union(other, context), chosen)


def apart(one, other, context):
    first, second = settled(union(one, context)), settled(union(other, context))
    return (tuple(sorted(set(first) - set(second))), tuple(sorted(set(second) - set(first))))


def kernel(book):
    found = []
    for x, y in pairs(book):
        between = [z for z in all_sets(book[0]) if set(x) < set(z) < set(y) and fits(book, (z, y))]
        if x == y or not between:
            found.append((x, y))
    return tuple(found)


def compare_by_facts(one, other):
    atoms = one[0]
    if kernel(one) == kernel(other):
        return ("same", kernel(one))
    chosen, given = min(
        (y, f) for y, f in product(all_sets(atoms), all_sets(atoms)) if differ(one, other, facts(atoms, f), y)
    )
    return ("differ", given, chosen)


def families(atoms):
    """All ascending tuples of sets none of which is within another one."""
    found = [()]
    for chosen in all_sets(atoms):
        found += [
            (*family, chosen) for family in found
            if not any(set(chosen) <= set(member) or set(member) <= set(chosen) for member in family)
        ]
    return found


def books_of_one_atom():
    """All rulebooks with one atom, their rules in one order each."""
    return [(1, rules) for rules in subsets_in_order(all_rules(1))]


def subsets_in_order(things):
    return [found for size in range(len(things) + 1) for found in combinations(things, size)]


@lru_cache(maxsize=None)
def sample_books(many=60):
    """Rulebooks with two to four atoms, of very different lengths; always the same ones."""
    source = random.Random(20)
    books = [(atoms, ()) for atoms in (1, 2, 3, 4)]
    for atoms in (2, 3, 4):
        rules = all_rules(atoms)
        longest = min(100, len(rules))
        for k in range(many):
            length = longest if k == 0 else source.choice((1, 2, 3, 4, 5, 7, 10, 20, 40))
            books.append((atoms, tuple(source.sample(rules, length))))
    return books


def many_books():
    return books_of_one_atom() + sample_books()


def telling_rules(atoms):
    """The rules that some set violates or some pair does not fit."""
    return [
        (head, holds, fails) for head, holds, fails in all_rules(atoms)
        if head not in holds and not set(holds) & set(fails)
    ]


def book_keeping(length, seed, *kept):
    """A rulebook of four atoms, none of whose rules is violated by one of the kept sets."""
    allowed = [rule for rule in telling_rules(4) if not any(violates(chosen, rule) for chosen in kept)]
    return (4, tuple(random.Random(seed).sample(allowed, length)))


@lru_cache(maxsize=None)
def settling_books(many=40):
    """Short rulebooks that have settled sets; always the same ones."""
    source = random.Random(21)
    books = []
    for atoms in (2, 3, 4):
        rules = [rule for rule in telling_rules(atoms) if len(rule[1]) + len(rule[2]) < 3]
        found = []
        while len(found) < many:
            book = (atoms, tuple(source.sample(rules, source.choice((2, 3, 4, 5, 6)))))
            # Every third one has several.
            if len(settled(book)) > (len(found) % 3 == 0):
                found.append(book)
        books += found
    return books


@lru_cache(maxsize=None)
def alike_books(many=15):
    """Pairs of rulebooks with the same number of atoms: alike or not, some of them nearly."""
    source = random.Random(40)
    books = settling_books(many) + sample_books(many)
    found = []
    for book in books:
        atoms, rules = book
        others = [other for other in books if other[0] == atoms]
        found += [
            (book, book), (book, (atoms, rules[::-1])), (book, rules_of(atoms, pairs(book))),
            (book, (atoms, rules[1:])), (book, (atoms, rules[:-1])), (book, source.choice(others)),
        ]
        unused = [rule for rule in all_rules(atoms) if rule not in rules]
        if unused and len(rules) < 100:
            found.append(((atoms, (*rules, source.choice(unused))), book))
    return found


def counter(book, rule):
    for pair in all_pairs(book[0]):
        if fits(book, pair) and not fits((book[0], (rule,)), pair):
            return pair
    return None


def needless(book):
    atoms, rules = book
    return tuple(rule for at, rule in enumerate(rules) if pairs((atoms, rules[:at] + rules[at + 1:])) == pairs(book))


def with_an_atom_less(rule):
    head, holds, fails = rule
    for atom in holds:
        yield (head, tuple(sorted({*holds} - {atom})), fails)
    for atom in fails:
        yield (head, holds, tuple(sorted({*fails} - {atom})))


def next_tidier(book):
    """The rulebook after one step of [60], None if nothing can be left out."""
    atoms, rules = book
    for rule in needless(book)[:1]:
        return (atoms, tuple(other for other in rules if other != rule))
    for at, rule in enumerate(rules):
        for shorter in with_an_atom_less(rule):
            found = (atoms, (*rules[:at], shorter, *rules[at + 1:]))
            if pairs(found) == pairs(book):
                return found
    return None


def tidy_steps(book):
    """The rulebook and what is left of it after each step of [60]."""
    steps = []
    while book is not None:
        steps.append(book)
        book = next_tidier(book)
    return steps


RULE_LINE = re.compile(r"(none|[0-3])(?: if ([0-3](?: [0-3])*))?(?: not ([0-3](?: [0-3])*))?")


def book_text(book):
    rows = [["atoms", book[0]]]
    for head, holds, fails in book[1]:
        rows.append([
            "none" if head is None else head,
            *(["if", *holds] if len(holds) > 0 else []), *(["not", *fails] if len(fails) > 0 else []),
        ])
    return "".join(" ".join(map(str, row)) + "\n" for row in rows)


def read_book(text):
    """The rulebook of a text, None if it has none."""
    if not re.fullmatch(r"atoms [1-4]\n(?:[^\n]*\n)*", text):
        return None
    atoms, rules = int(text[6]), []
    for line in text[8:].split("\n")[:-1]:
        found = RULE_LINE.fullmatch(line)
        if found is None:
            return None
        head, *sets = found.groups()
        sets = [tuple(int(word) for word in words.split()) if words else () for words in sets]
        head = None if head == "none" else int(head)
        if any(list(chosen) != sorted(set(chosen)) for chosen in sets):
            return None
        if any(atom is not None and atom >= atoms for atom in (head, *sets[0], *sets[1])):
            return None
        rules.append((head, *sets))
    if len(set(rules)) != len(rules) or len(rules) > 100:
        return None
    return (atoms, tuple(rules))
