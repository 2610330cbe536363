"""The text of a graph: writing it, and reading it."""

from samebytes.checks import check_graph
from samebytes.errors import BadText
from samebytes.graphs import Graph
from samebytes.objects import is_mark, is_object, is_spelled

BRACKETS = {"record": "()", "list": "[]", "set": "{}", "dict": "{}"}
SIGNS = "=:,@()[]{}"
DIGITS = "0123456789"
MOST_DIGITS = 30
# A minus belongs to its integer, so it is read together with the digits.
WORD_SIGNS = "abcdefghijklmnopqrstuvwxyz0123456789-"


def write(graph):
    """Return the text of a graph."""
    check_graph(graph)
    lines = [f"{mark} = {written_object(graph[mark])}" for mark in graph.marks]
    return "\n".join([f"root {graph.root}", *lines])


def read(text):
    """Return the graph that a text tells."""
    if not isinstance(text, str):
        raise BadText(None)
    root = None
    objects = {}
    for number, line in enumerate(text.split("\n")):
        words = words_of(line)
        if is_root_line(words) and root is None:
            root = words[1]
        elif words != []:
            mark, thing = read_line(words)
            if thing is None or mark in objects:
                raise BadText(number)
            objects[mark] = thing
    if root is None:
        raise BadText(None)
    return Graph(root, objects)


def written_object(thing):
    """Return an object, its parts ascending, as it is written."""
    kind = thing[0]
    if kind in ("list", "set"):
        parts = [written_worth(worth) for worth in thing[1]]
    elif kind == "dict":
        parts = [f"{written_worth(key)}: {written_worth(worth)}" for key, worth in thing[1]]
    else:
        parts = [f"{name}: {written_worth(worth)}" for name, worth in thing[2]]
        kind = f"record {thing[1]}"
    opening, closing = BRACKETS[thing[0]]
    return f"{kind} {opening}{', '.join(parts)}{closing}"


def written_worth(worth):
    """Return a worth as it is written."""
    if isinstance(worth, tuple):
        return "@" + worth[1]
    return f"'{worth}'" if isinstance(worth, str) else str(worth)


def words_of(line):
    """Return the list of the words, texts and signs of a line, or None if it has other characters."""
    words = []
    start = 0
    while start < len(line):
        end = word_end(line, start)
        if end is None:
            return None
        if line[start] != " ":
            words.append(line[start:end])
        start = end
    return words


def word_end(line, start):
    """Return the place behind the word, text, sign or space that begins at a place, or None if none does."""
    if line[start] == " " or line[start] in SIGNS:
        return start + 1
    if line[start] == "'":
        closing = line.find("'", start + 1)
        return None if closing < 0 else closing + 1
    end = start
    while end < len(line) and line[end] in WORD_SIGNS:
        end += 1
    return None if end == start else end


def is_root_line(words):
    """Tell whether the words of a line, or None, tell the root."""
    return words is not None and len(words) == 2 and words[0] == "root" and is_mark(words[1])


def read_line(words):
    """Return the mark and the object that the words of a line, or None, tell; None for the object if they do not."""
    if words is None or len(words) < 3 or not is_mark(words[0]) or words[1] != "=":
        return (None, None)
    return (words[0], read_object(words[2:]))


def read_object(words):
    """Return the object that words tell, or None."""
    kind = words[0]
    head = [kind]
    rest = words[1:]
    if kind == "record":
        head = words[:2]
        rest = words[2:]
    if kind not in BRACKETS or len(rest) < 2 or rest[0] + rest[-1] != BRACKETS[kind]:
        return None
    parts = parted(rest[1:-1], ",") if len(rest) > 2 else []
    thing = (*head, tuple([read_part(kind, part) for part in parts]))
    # A part that is not right, or could not be read and is None, makes that no object of it.
    return thing if is_object(thing) else None


def read_part(kind, words):
    """Return the field, item, member or entry that words tell, or something with None in the place of a worth."""
    if kind in ("list", "set"):
        return read_worth(words)
    sides = parted(words, ":")
    if len(sides) != 2:
        return None
    if kind == "dict":
        return (read_worth(sides[0]), read_worth(sides[1]))
    return (sides[0][0] if len(sides[0]) == 1 else None, read_worth(sides[1]))


def read_worth(words):
    """Return the worth that words tell, or None, or something of a worth's form whose mark or text is not right."""
    if len(words) == 2 and words[0] == "@":
        return ("at", words[1])
    if len(words) != 1:
        return None
    word = words[0]
    return word[1:-1] if word[0] == "'" else read_integer(word)


def read_integer(word):
    """Return the integer that a word tells, or None."""
    digits = word[1:] if word[0] == "-" else word
    if not is_spelled(digits, DIGITS, 1, MOST_DIGITS):
        return None
    # Needless zeros, and a minus ahead of 0.
    if digits[0] == "0" and word != "0":
        return None
    return int(word)


def parted(words, sign):
    """Return the lists of words between those that are a sign."""
    parts = [[]]
    for word in words:
        if word == sign:
            parts.append([])
        else:
            parts[-1].append(word)
    return parts
