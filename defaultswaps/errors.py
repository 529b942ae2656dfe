"""The errors that the package raises."""


class SwapError(ValueError):
    """What all errors of the package have above them."""


class AtomsError(SwapError):
    """Not a number of atoms."""


class BookError(SwapError):
    """Not a rulebook."""


class RuleError(SwapError):
    """Not a rule that can stand here."""


class SetError(SwapError):
    """Not a set of the atoms."""


class SetsError(SwapError):
    """Not sets that can be the settled ones."""


class TableError(SwapError):
    """Not a table."""


class MatchError(SwapError):
    """Different numbers of atoms."""


class TextError(SwapError):
    """Not the text of a rulebook."""


class AtomError(SwapError):
    """Not an atom that can stand here."""


class NumberError(SwapError):
    """Not the position of a rule."""


class NothingError(SwapError):
    """Nothing that could be taken back."""


class LimitError(SwapError):
    """An amount above its limit."""

    def __init__(self, amount, limit):
        super().__init__(f"{amount} is above the limit {limit}")
        self.amount = amount
        self.limit = limit
