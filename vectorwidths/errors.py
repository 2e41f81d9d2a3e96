"""The errors of the package: each keeps its field itself, whatever object it is."""


class WidthError(ValueError):
    """The base of the errors that have one field `value`, the rejected argument."""


class InvalidNumber(WidthError):
    """Tells what is no integer, or none in the stated range."""

    def __init__(self, value):
        super().__init__("no integer in the stated range")
        self.value = value


class InvalidName(WidthError):
    """Tells what is no name, or not one of the known names."""

    def __init__(self, value):
        super().__init__("no such name")
        self.value = value


class InvalidRef(WidthError):
    """Tells what is no ref, or none on a known line, or too many refs."""

    def __init__(self, value):
        super().__init__("no such ref")
        self.value = value


class InvalidLine(WidthError):
    """Tells what is no line, or no lines that go together."""

    def __init__(self, value):
        super().__init__("no such line")
        self.value = value


class InvalidStatement(WidthError):
    """Tells what are no statements of one loop."""

    def __init__(self, value):
        super().__init__("no statements of one loop")
        self.value = value


class InvalidLoop(WidthError):
    """Tells what is no loop, or what in it does not fit."""

    def __init__(self, value):
        super().__init__("no such loop")
        self.value = value


class InvalidText(WidthError):
    """Tells what is no text of a loop."""

    def __init__(self, value):
        super().__init__("no text of a loop")
        self.value = value


class InvalidPart(WidthError):
    """Tells the part of a way whose value is not allowed."""

    def __init__(self, value):
        super().__init__("no value of this part")
        self.value = value


class InvalidBundles(WidthError):
    """Tells what are no bundles, or the way whose bundles do not go with a loop."""

    def __init__(self, value):
        super().__init__("no bundles of these statements")
        self.value = value


class InvalidTerm(WidthError):
    """Tells what is no term."""

    def __init__(self, value):
        super().__init__("no term")
        self.value = value


class InvalidRules(WidthError):
    """Tells what is no set of rules of adding."""

    def __init__(self, value):
        super().__init__("no set of rules")
        self.value = value


class InvalidEdit(WidthError):
    """Tells what is no edit, or no list of edits."""

    def __init__(self, value):
        super().__init__("no such edit")
        self.value = value


class InvalidCommand(WidthError):
    """Tells what is no command, or no list of deeds."""

    def __init__(self, value):
        super().__init__("no such command")
        self.value = value


class InvalidCode(WidthError):
    """Tells what is no code, or no functions for it."""

    def __init__(self, value):
        super().__init__("no such code")
        self.value = value


class UnknownCell(KeyError):
    """Tells what is no cell."""

    def __init__(self, value):
        super().__init__("no cell")
        self.value = value


class TooMany(OverflowError):
    """Tells the limit above which nothing is tried."""

    def __init__(self, limit):
        super().__init__("more than the limit")
        self.limit = limit


class NothingToUndo(LookupError):
    """Tells that no change is left that can be undone."""

    def __init__(self):
        super().__init__("nothing to undo")
