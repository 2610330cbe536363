"""The console: commands over a history, told and answered by texts."""

from samebytes.errors import BadCommand
from samebytes.forms import one_text
from samebytes.objects import LETTERS_AND_DIGITS, is_spelled
from samebytes.papers import is_same
from samebytes.pieces import pieces
from samebytes.symmetries import symmetries
from samebytes.texts import read, read_integer, write, written_worth
from samebytes.versions import History, check_version

# What follows a command, from which it is separated by a space.
FORMS = {"new": "text", "at": "number", "merge": "number", "same": "number", "worth": "path",
         "text": "nothing", "one": "nothing", "symmetries": "nothing", "pieces": "nothing"}


class Console:
    """A history, and the number of its present version, or None if there is none."""

    def __init__(self):
        self._history = History()
        self._present = None

    @property
    def history(self):
        """The history of the console."""
        return self._history

    def execute(self, line):
        """Execute a command, and return its answer."""
        word, value = read_command(line)
        if word is None or (self._present is None and word not in ("new", "at")):
            raise BadCommand(line)
        if word in ("new", "at", "merge"):
            self._present = self.moved(word, value)
            return str(self._present)
        graph = self._history[self._present]
        if word == "same":
            return "same" if is_same(graph, self._history[value]) else "different"
        return answer(graph, word, value)

    def moved(self, word, value):
        """Execute a command that chooses another present version, and return that."""
        if word == "merge":
            return self._history.merge(self._present, value)
        if word == "at":
            check_version(self._history, value)
            return value
        graph = read(value.replace(";", "\n"))
        return self._history.commit(graph, () if self._present is None else (self._present,))


def answer(graph, word, value):
    """Return the answer to a command that asks for something of the graph of the present version."""
    if word == "text":
        return write(graph).replace("\n", "; ")
    if word == "one":
        return one_text(graph).replace("\n", "; ")
    if word == "symmetries":
        return str(symmetries(graph)[0])
    if word == "pieces":
        return " ".join([",".join(piece) for piece in pieces(graph)])
    return written_worth(graph(value))


def read_command(line):
    """Return the word of a command and the value that follows it; the word is None if any value is no command."""
    if not isinstance(line, str):
        return (None, None)
    word, space, rest = line.partition(" ")
    if word not in FORMS:
        return (None, None)
    form = FORMS[word]
    if form == "nothing":
        return (word if space == "" else None, None)
    value = rest
    if form == "number":
        value = read_number(rest)
    if form == "path":
        value = read_path(rest)
    return (None, None) if rest == "" or value is None else (word, value)


def read_number(word):
    """Return the integer from 0 that a word tells, or None."""
    number = None if word == "" else read_integer(word)
    return None if number is None or number < 0 else number


def read_path(word):
    """Return the tuple of the steps that a word tells, or None."""
    steps = [read_step(step) for step in word.split("/")]
    return None if None in steps else tuple(steps)


def read_step(word):
    """Return the integer or the text that a word tells, or None."""
    if word == "":
        return None
    number = read_integer(word)
    if number is not None:
        return number
    return word if is_spelled(word, LETTERS_AND_DIGITS, 1, len(word)) else None
