"""The errors of the package. Each one keeps what it was raised with as an attribute."""


class HillError(Exception):
    """The base class of all errors of the package."""


class BadHill(HillError):
    """No hill."""

    def __init__(self, thing):
        self.thing = thing


class BadBook(HillError):
    """No book."""

    def __init__(self, thing):
        self.thing = thing


class BadTerrace(HillError):
    """No terrace of the hill."""

    def __init__(self, thing):
        self.thing = thing


class BadLot(HillError):
    """No lot of the hill."""

    def __init__(self, thing):
        self.thing = thing


class BadWater(HillError):
    """No water of the hill."""

    def __init__(self, thing):
        self.thing = thing


class BadDeed(HillError):
    """No deed."""

    def __init__(self, thing):
        self.thing = thing


class BadScript(HillError):
    """No script."""

    def __init__(self, thing):
        self.thing = thing


class BadCouple(HillError):
    """No couple of the hill."""

    def __init__(self, thing):
        self.thing = thing


class BadNames(HillError):
    """No renaming of the terraces."""

    def __init__(self, thing):
        self.thing = thing


class BadKind(HillError):
    """No kind for the book."""

    def __init__(self, thing):
        self.thing = thing


class BadStep(HillError):
    """No step, or none that can be done."""

    def __init__(self, thing):
        self.thing = thing


class BadPlan(HillError):
    """No plan of the book."""

    def __init__(self, thing):
        self.thing = thing


class BadWeaving(HillError):
    """No weaving of the plan."""

    def __init__(self, thing):
        self.thing = thing


class BadProgram(HillError):
    """No program for the book."""

    def __init__(self, thing):
        self.thing = thing


class BadNotes(HillError):
    """No notes for the book."""

    def __init__(self, thing):
        self.thing = thing


class BadWeights(HillError):
    """No weights for the hill."""

    def __init__(self, thing):
        self.thing = thing


class BadNumber(HillError):
    """No integer within the bounds."""

    def __init__(self, thing):
        self.thing = thing


class BadHeights(HillError):
    """No heights on the hill."""

    def __init__(self, thing):
        self.thing = thing


class BadPoint(HillError):
    """No point of the grid."""

    def __init__(self, thing):
        self.thing = thing


class BadMap(HillError):
    """No map of the one hill into the other one."""

    def __init__(self, thing):
        self.thing = thing


class BadPrices(HillError):
    """No prices for the hill."""

    def __init__(self, thing):
        self.thing = thing


class BadWishes(HillError):
    """No wishes."""

    def __init__(self, thing):
        self.thing = thing


class BadPromise(HillError):
    """No promise, or none that was made."""

    def __init__(self, thing):
        self.thing = thing


class BadText(HillError):
    """No text of the kind that is read: wrong at a line, or 0 for what is no string."""

    def __init__(self, at):
        self.at = at


class Broken(HillError):
    """A promise would be broken."""

    def __init__(self, promise):
        self.promise = promise


class Unreached(HillError):
    """A terrace that no deed reaches."""

    def __init__(self, terrace):
        self.terrace = terrace


class NoneFits(HillError):
    """No beginning fits the notes."""


class NothingToUndo(HillError):
    """No deed can be undone."""


class NothingToRedo(HillError):
    """No deed can be done again."""
