"""Marks, names, plain values, worths and objects: what they are, and the parts of objects in order."""

from samebytes.errors import BadMap, BadObject

LETTERS = "abcdefghijklmnopqrstuvwxyz"
LETTERS_AND_DIGITS = "abcdefghijklmnopqrstuvwxyz0123456789"
LONGEST_WORD = 8
LONGEST_TEXT = 20
MOST_PARTS = 30
# Integers are compared with this: to count the digits of a huge one, Python would have to write it out.
FIRST_TOO_GREAT = 10 ** 30


def is_mark(value):
    """Tell whether any value is a mark."""
    return is_spelled(value, LETTERS_AND_DIGITS, 1, LONGEST_WORD) and value[0] in LETTERS


def is_name(value):
    """Tell whether any value is a name."""
    return is_spelled(value, LETTERS, 1, LONGEST_WORD)


def is_plain(value):
    """Tell whether any value is a plain value."""
    if is_number(value):
        return -FIRST_TOO_GREAT < value < FIRST_TOO_GREAT
    return is_spelled(value, LETTERS_AND_DIGITS, 0, LONGEST_TEXT)


def is_worth(value):
    """Tell whether any value is a worth."""
    return is_plain(value) or is_reference(value)


def is_object(value):
    """Tell whether any value is an object."""
    if not isinstance(value, tuple) or not value or not isinstance(value[0], str):
        return False
    if value[0] == "record":
        return len(value) == 3 and is_name(value[1]) and are_few(value[2]) and are_fields(value[2])
    if len(value) != 2 or not are_few(value[1]):
        return False
    if value[0] == "list":
        return are_worths(value[1])
    if value[0] == "set":
        return are_worths(value[1]) and are_different(value[1])
    return value[0] == "dict" and are_entries(value[1])


def ordered(thing):
    """Return an object with its parts ascending."""
    check_object(thing)
    return arranged(thing)


def references(thing):
    """Return the ascending list of the marks to which an object refers."""
    check_object(thing)
    return marks_in(thing)


def places(thing):
    """Return the list of pairs of a place and the worth that stands there."""
    check_object(thing)
    kind = thing[0]
    parts = arranged(thing)[-1]
    if kind == "list":
        return [(("item", index), worth) for index, worth in enumerate(parts)]
    if kind == "set":
        return [(("member", worth), worth) for worth in parts]
    word = "field" if kind == "record" else "key"
    return [((word, key), worth) for key, worth in parts]


def replaced(thing, marks):
    """Return an object with the marks of its references replaced by a dict."""
    check_object(thing)
    if not is_dict_of_marks(marks):
        raise BadMap(marks)
    used = marks_in(thing)
    if not all([mark in marks for mark in used]) or not are_different([marks[mark] for mark in used]):
        raise BadMap(marks)
    return with_marks(thing, marks)


# What follows is for the other files. Where an argument is called thing, it is an object, which is not checked again.


def is_spelled(value, characters, least, most):
    """Tell whether any value is a text of such characters and of such a length."""
    return isinstance(value, str) and least <= len(value) <= most and all([sign in characters for sign in value])


def is_number(value):
    """Tell whether any value is an integer; to Python, True and False are some."""
    return isinstance(value, int) and not isinstance(value, bool)


def is_pair(value):
    """Tell whether any value is a tuple of two."""
    return isinstance(value, tuple) and len(value) == 2


def is_reference(value):
    """Tell whether any value is a reference."""
    return is_pair(value) and isinstance(value[0], str) and value[0] == "at" and is_mark(value[1])


def is_dict_of_marks(value):
    """Tell whether any value is a dict from marks to marks."""
    return isinstance(value, dict) and all([is_mark(mark) and is_mark(value[mark]) for mark in value])


def are_few(value):
    """Tell whether any value is a tuple of no more parts than an object may have."""
    return isinstance(value, tuple) and len(value) <= MOST_PARTS


def are_worths(parts):
    """Tell whether the parts of a tuple are worths."""
    return all([is_worth(part) for part in parts])


def are_fields(parts):
    """Tell whether the parts of a tuple are fields with different names."""
    if not all([is_pair(part) and is_name(part[0]) and is_worth(part[1]) for part in parts]):
        return False
    return are_different([name for name, _ in parts])


def are_entries(parts):
    """Tell whether the parts of a tuple are entries with different keys."""
    if not all([is_pair(part) and are_worths(part) for part in parts]):
        return False
    return are_different([key for key, _ in parts])


def are_different(worths):
    """Tell whether no worth, name or mark stands in a list twice."""
    return len(set(worths)) == len(worths)


def check_object(thing):
    """Raise the error for any value that is no object."""
    if not is_object(thing):
        raise BadObject(thing)


def worth_order(worth):
    """Return what a worth is sorted by: integers, then texts, then references."""
    if isinstance(worth, tuple):
        return (2, worth[1])
    return (1, worth) if isinstance(worth, str) else (0, worth)


def key_order(part):
    """Return what a field is sorted by, or an entry: its name or key."""
    return worth_order(part[0])


def arranged(thing):
    """Return an object with its parts ascending."""
    kind = thing[0]
    if kind == "record":
        return (kind, thing[1], tuple(sorted(thing[2], key=key_order)))
    if kind == "dict":
        return (kind, tuple(sorted(thing[1], key=key_order)))
    if kind == "set":
        return (kind, tuple(sorted(thing[1], key=worth_order)))
    return thing


def worths_in(thing):
    """Return the list of all worths that stand in an object, the keys of a dict too."""
    if thing[0] == "record":
        return [worth for _, worth in thing[2]]
    if thing[0] == "dict":
        return [worth for entry in thing[1] for worth in entry]
    return list(thing[1])


def marks_in(thing):
    """Return the ascending list of the marks to which an object refers."""
    return sorted({worth[1] for worth in worths_in(thing) if isinstance(worth, tuple)})


def with_mark(worth, marks):
    """Return a worth, a reference with its mark replaced by a dict."""
    return ("at", marks[worth[1]]) if isinstance(worth, tuple) else worth


def with_marks(thing, marks):
    """Return an object with the marks of its references replaced by a dict that takes no two of them to one."""
    kind = thing[0]
    if kind == "record":
        return arranged((kind, thing[1], tuple([(name, with_mark(worth, marks)) for name, worth in thing[2]])))
    if kind == "dict":
        entries = [(with_mark(key, marks), with_mark(worth, marks)) for key, worth in thing[1]]
        return arranged((kind, tuple(entries)))
    return arranged((kind, tuple([with_mark(worth, marks) for worth in thing[1]])))


def worth_at(thing, step):
    """Return the worth to which a step leads from an object, or None if it leads nowhere; a step is any value."""
    if thing[0] == "list":
        is_index = is_number(step) and 0 <= step < len(thing[1])
        return thing[1][step] if is_index else None
    if thing[0] == "set" or not is_worth(step):
        return None
    return dict(thing[-1]).get(step)
