"""Values that are none of those that the package describes."""

from defaultswaps.desk import Desk
from defaultswaps.errors import BookError, LimitError
from defaultswaps.objects import Choice, Facts, Round, Rules, Start
from tests import oracle


def objects():
    """Objects of the package, of every class."""
    desk = Desk((2, ((0, (), ()),)))
    return [
        Rules(1), Rules(2, (0, (), ()), (1, (0,), ())), Facts(2, 1), Round(2, 0, 1), Choice(2, 0, 1),
        Start(2, 0, 1, facts=(0,)), desk, desk.supposing((1, (), ())), BookError("a word"), LimitError(3, 2),
    ]


def with_objects(value):
    """All values that come from this one by putting an object for one of its parts, at any depth, or for it all."""
    found = objects()
    if isinstance(value, tuple):
        found += [
            (*value[:at], changed, *value[at + 1:])
            for at, part in enumerate(value) for changed in with_objects(part)
        ]
    return found


def things_with_objects():
    """Objects of the package, alone and inside of tuples, lists and dicts."""
    rules = Rules(2, (0, (), ()), (1, (0,), ()))
    return [
        *objects(), (rules,), [rules], {0: rules}, (rules, rules), (2, rules), (2, (rules,)), [2, [rules]], (rules, ()),
        (2, ((rules, (), ()),)), (2, ((0, rules, ()),)), (2, ((0, (), (rules,)),)), ({"rules": rules}, [Facts(2)]),
        ((((((((rules,),),),),),),),), (Start(2), Desk((1, ())), None),
    ]


def other_things():
    """Values of every kind that a caller may pass, none of which is a tuple of the package."""
    return [
        None, True, False, 0, 1, 2, -1, 10 ** 13 - 1, "", "atoms 2\n", "01", [], {}, {0: 1}, [0], [()],
        [2, []], {"atoms": 2}, ("",), (None,), (True,), (False,), (None, None), ((), (), ()), ("ab", "cd"),
        (((((((0,),),),),),),), ([], []), ({}, {}), (2, None), (2, []), (2, {}), (2, ""), (None, ()),
        1.0, b"01", {0, 1}, frozenset(), range(2), object(), tuple(range(3000)),
        *things_with_objects(),
    ]


def numbers_of_no_atoms():
    return [
        0, 5, -1, 100, 10 ** 13 - 1, True, False, None, "2", "", [], [2], (), (2,), {}, {2: 2}, 2.0,
        (2, ()), [[]], *things_with_objects(),
    ]


def with_bools(value):
    """All values that come from this one by putting a bool for one 0 or 1, at any depth."""
    if isinstance(value, tuple):
        return [
            (*value[:at], changed, *value[at + 1:])
            for at, part in enumerate(value) for changed in with_bools(part)
        ]
    if isinstance(value, int) and not isinstance(value, bool) and value in (0, 1):
        return [bool(value)]
    return []


def with_lists(value):
    """All values that come from this one by putting a list for one tuple, at any depth."""
    if not isinstance(value, tuple):
        return []
    inner = [
        (*value[:at], changed, *value[at + 1:])
        for at, part in enumerate(value) for changed in with_lists(part)
    ]
    return [list(value), *inner]


def no_rulebooks():
    book = (3, ((0, (), (1,)), (None, (0, 1), (2,)), (1, (0,), ())))
    every = tuple(oracle.all_rules(4))
    return [
        *other_things(), *with_bools(book), *with_lists(book), *with_bools((1, ((0, (), ()),))),
        (3, (*book[1], book[1][0])), (2, ((0, (), ()), (0, (), ()))), (4, every[:101]), (4, every),
        (0, ()), (5, ()), (1, ((1, (), ()),)), (2, ((0, (1, 0), ()),)), book[1], book[::-1], (*book, ()),
        *with_objects((2, ((0, (), (1,)),))),
    ]


def no_rules():
    """Values none of which is a rule for up to three atoms."""
    rule = (0, (0, 1), (1,))
    return [
        *other_things(), *with_bools(rule), *with_lists(rule), *with_objects(rule), (3, (), ()), (0, (3,), ()),
        (0, (), (3,)), (-1, (), ()), (0, (1, 0), ()), (0, (), (1, 1)), (0, ()), (0, (), (), ()), ((), (), ()), (rule,),
        "0 if 0 1 not 1", ("none", (), ()), (0, None, ()), (0, (), None), (0, 1, ()), (10 ** 13 - 1, (), ()),
    ]


def no_sets():
    """Values none of which is a set of up to three atoms."""
    return [
        *other_things(), *with_bools((0, 1, 2)), *with_lists((0, 1, 2)), [], (3,), (-1,), (1, 0), (0, 0),
        (0, 1, 2, 3), ((0,),), (0, None), ("0",), (2, 1), (0, 2, 2), *with_objects((0, 1)),
    ]
