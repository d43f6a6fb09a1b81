"""What is refused: one class for each refusal, all straight below CutError."""


class CutError(ValueError):
    """Stands above all refusals."""


class NoWeight(CutError):
    """No weight, or an amount below nought."""


class NoPlace(CutError):
    """No place, no number of places, or no ends."""


class NoTie(CutError):
    """No tie at this index of a row."""

    def __init__(self, at):
        self.at = at


class TooMany(CutError):
    """More than there may be at most."""

    def __init__(self, most):
        self.most = most


class NoSide(CutError):
    """No side of the web."""


class NoFlow(CutError):
    """No flow between the ends."""


class NotGreatest(CutError):
    """A flow that is not of the greatest worth."""


class NoTree(CutError):
    """No tree, or no cut tree of the web."""


class OnePlace(CutError):
    """One place alone, so nothing to part."""


class InPieces(CutError):
    """A web of several pieces."""


class NoChart(CutError):
    """No chart of so many places."""


class NoGroups(CutError):
    """No groups for the places."""


class NoDemand(CutError):
    """No demands of so many places."""


class NoLine(CutError):
    """No line of such a text at this number."""

    def __init__(self, at):
        self.at = at


class NotThere(CutError):
    """Nothing that could be taken back."""
