"""Values that are none of those that the package describes."""

from defaultswaps.errors import BookError, LimitError
from tests import oracle


def other_things():
    """Values of every kind that a caller may pass, none of which is a tuple of the package."""
    return [
        None, True, False, 0, 1, 2, -1, 10 ** 13 - 1, "", "atoms 2\n", "01", [], {}, {0: 1}, [0], [()],
        [2, []], {"atoms": 2}, ("",), (None,), (True,), (False,), (None, None), ((), (), ()), ("ab", "cd"),
        (((((((0,),),),),),),), ([], []), ({}, {}), (2, None), (2, []), (2, {}), (2, ""), (None, ()),
        BookError("a word"), LimitError(3, 2), 1.0, b"01", {0, 1}, frozenset(), range(2), object(), tuple(range(3000)),
    ]


def numbers_of_no_atoms():
    return [
        0, 5, -1, 100, 10 ** 13 - 1, True, False, None, "2", "", [], [2], (), (2,), {}, {2: 2}, 2.0,
        (2, ()), [[]], BookError("a word"),
    ]


def with_bools(value):
    """All values that come from this one by putting a bool for one 0 or 1, at any depth."""
    if isinstance(value, tuple):
        return [
            (*value[:at], changed, *value[at + 1:])
            for at, part in enumerate(value) for changed in with_bools(part)
        ]
    if isinstance(value, int) and not isinstance(value, bool) and value in (0, 1):
        return [bool(value)]
    return []


def with_lists(value):
    """All values that come from this one by putting a list for one tuple, at any depth."""
    if not isinstance(value, tuple):
        return []
    inner = [
        (*value[:at], changed, *value[at + 1:])
        for at, part in enumerate(value) for changed in with_lists(part)
    ]
    return [list(value), *inner]


def no_rulebooks():
    book = (3, ((0, (), (1,)), (None, (0, 1), (2,)), (1, (0,), ())))
    every = tuple(oracle.all_rules(4))
    return [
        *other_things(), *with_bools(book), *with_lists(book), *with_bools((1, ((0, (), ()),))),
        (3, (*book[1], book[1][0])), (2, ((0, (), ()), (0, (), ()))), (4, every[:101]), (4, every),
        (0, ()), (5, ()), (1, ((1, (), ()),)), (2, ((0, (1, 0), ()),)), book[1], book[::-1], (*book, ()),
    ]


def no_sets():
    """Values none of which is a set of up to three atoms."""
    return [
        *other_things(), *with_bools((0, 1, 2)), *with_lists((0, 1, 2)), [], (3,), (-1,), (1, 0), (0, 0),
        (0, 1, 2, 3), ((0,),), (0, None), ("0",), (2, 1), (0, 2, 2),
    ]
