"""The errors of the package. The field of each one holds what was wrong."""


class GraphError(Exception):
    """The base class of all errors of this package."""


class BadArgument(GraphError):
    """The value is not of the class that is asked for."""

    def __init__(self, value):
        self.value = value


class BadMark(GraphError):
    """The value is no mark."""

    def __init__(self, value):
        self.value = value


class UnknownMark(GraphError):
    """The value is no mark of the graph."""

    def __init__(self, value):
        self.value = value


class BadName(GraphError):
    """The value is no name."""

    def __init__(self, value):
        self.value = value


class BadObject(GraphError):
    """The value, or what stands under it as a mark, is no object of the kind that is asked for."""

    def __init__(self, value):
        self.value = value


class BadMap(GraphError):
    """The value is no dict of the form that is asked for."""

    def __init__(self, value):
        self.value = value


class BadMarked(GraphError):
    """The value is no tuple of marked objects."""

    def __init__(self, value):
        self.value = value


class BadChange(GraphError):
    """The value is no change."""

    def __init__(self, value):
        self.value = value


class BadValue(GraphError):
    """The value is none of those that are asked for."""

    def __init__(self, value):
        self.value = value


class BadPiece(GraphError):
    """The value is not the list of the marks of a piece."""

    def __init__(self, value):
        self.value = value


class BadSteps(GraphError):
    """The value is no path of steps."""

    def __init__(self, value):
        self.value = value


class MissingObject(GraphError):
    """The object with the mark is referred to and lacks."""

    def __init__(self, mark):
        self.mark = mark


class Unreachable(GraphError):
    """The object with the mark cannot be reached from the root."""

    def __init__(self, mark):
        self.mark = mark


class LimitExceeded(GraphError):
    """The number of objects or parts is greater than it may be."""

    def __init__(self, number):
        self.number = number


class UnknownVersion(GraphError):
    """There is no version with the number."""

    def __init__(self, number):
        self.number = number


class UnknownName(GraphError):
    """There is no graph under the name."""

    def __init__(self, name):
        self.name = name


class NameTaken(GraphError):
    """There is a graph under the name already."""

    def __init__(self, name):
        self.name = name


class BadText(GraphError):
    """The line with the number is no line of a text, or the text is none as a whole."""

    def __init__(self, line):
        self.line = line


class BadCommand(GraphError):
    """The line is no command, or none that can be executed now."""

    def __init__(self, line):
        self.line = line


class NoPlace(GraphError):
    """There is no such place; the index is that of the step that has none."""

    def __init__(self, index):
        self.index = index


class Clash(GraphError):
    """Both sides of a merge have changed the same places."""

    def __init__(self, clashes):
        self.clashes = clashes


class NothingToUndo(GraphError):
    """There is no step that can be undone."""

    def __init__(self):
        super().__init__()
