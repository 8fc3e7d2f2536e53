"""The errors of the package: each has what it was raised for as an attribute."""


class LoopError(Exception):
    """The base class of all errors of the package."""


class BadPlacement(LoopError):
    """A value that is not a placement."""

    def __init__(self, thing):
        self.thing = thing


class BadPlace(LoopError):
    """A value that is not a place that fits here."""

    def __init__(self, thing):
        self.thing = thing


class BadEdge(LoopError):
    """A value that is not an edge that fits here."""

    def __init__(self, thing):
        self.thing = thing


class OwnEdge(LoopError):
    """An edge that is one of the place itself."""

    def __init__(self, edge):
        self.edge = edge


class BadPlan(LoopError):
    """A value that is not a plan for the placement."""

    def __init__(self, thing):
        self.thing = thing


class BadCounts(LoopError):
    """A value that is not counts that fit here."""

    def __init__(self, thing):
        self.thing = thing


class BadRegister(LoopError):
    """A value that is not a register that the place keeps."""

    def __init__(self, thing):
        self.thing = thing


class BadUpdate(LoopError):
    """A value that is not an update that fits here."""

    def __init__(self, thing):
        self.thing = thing


class NotReady(LoopError):
    """What was asked for is not ready yet."""


class BadRun(LoopError):
    """A value that is not a run for the placement and the plan."""

    def __init__(self, thing):
        self.thing = thing


class IsCounted(LoopError):
    """The place counts the edge."""


class BadLoop(LoopError):
    """A value that is not a loop for the place and the edge."""

    def __init__(self, thing):
        self.thing = thing


class BadSite(LoopError):
    """A value that is not a site of the placement."""

    def __init__(self, thing):
        self.thing = thing


class BadEdges(LoopError):
    """A value that is not an ascending tuple of edges that fit here."""

    def __init__(self, thing):
        self.thing = thing


class BadStandins(LoopError):
    """A value that is not stand-ins of the placement."""

    def __init__(self, thing):
        self.thing = thing


class BadNumber(LoopError):
    """A value that is not a number that fits here."""

    def __init__(self, thing):
        self.thing = thing


class BadChange(LoopError):
    """A value that is not a change of the placement."""

    def __init__(self, thing):
        self.thing = thing


class BadWrites(LoopError):
    """A value that is not the writes of a store."""

    def __init__(self, thing):
        self.thing = thing


class BadPlaces(LoopError):
    """A value that is not places that fit here."""

    def __init__(self, thing):
        self.thing = thing


class BadValue(LoopError):
    """A value that no register can have."""

    def __init__(self, thing):
        self.thing = thing


class BadStore(LoopError):
    """A value that is not a store."""

    def __init__(self, thing):
        self.thing = thing


class BadHistory(LoopError):
    """A row of a history that is not possible, by its position."""

    def __init__(self, at):
        self.at = at


class BadRows(LoopError):
    """A value that is not a free history."""

    def __init__(self, thing):
        self.thing = thing


class BadLine(LoopError):
    """A wrong line of a text, by its number."""

    def __init__(self, at):
        self.at = at


class NotEarly(LoopError):
    """The run has no early event."""


class BadEvent(LoopError):
    """A value that is not an event that is possible."""

    def __init__(self, thing):
        self.thing = thing
