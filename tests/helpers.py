"""What several tests use."""

import unittest

from samebytes.errors import GraphError
from samebytes.graphs import Graph

HUGE = 10 ** 5000


class Odd:
    """An object of a class that the package does not know, which claims to be equal to everything."""

    def __eq__(self, other):
        return True

    __hash__ = None


# Values that are no marks, names, worths, objects, graphs, changes, paths or dicts of marks, whatever is asked for.
STRANGE = [
    None, True, False, 1.5, b"a", [], ["a"], {}, {"a": "b"}, set(), frozenset(("a",)), object(), Odd(), len, int,
    range(3), ValueError("a"), ([],), ({},), (None,), (True,), ("at",), ("at", "A"), ("at", "b", "c"), ("at", 1),
    ("at", None), ("at", ["b"]), ["at", "b"], (("at", "b"),), (b"at", "b"), (None, None), ("a", {}, None), (Odd(), "b"), ("at", Odd()),
    (Odd(), ()), (Odd(), "pair", ()), (Odd(), {}), HUGE, -HUGE,
    "A", "\u00e9", "a b", " ", "_", "x" * 21,
]
NO_DICTS = [value for value in STRANGE if not isinstance(value, dict)]
NO_TUPLES = [value for value in STRANGE if not isinstance(value, tuple)]


def at(mark):
    return ("at", mark)


def chain(number):
    """The objects a0, a1 and so on, as many as that, each but the last a list that refers to the next one."""
    things = {f"a{index}": ("list", (at(f"a{index + 1}"),)) for index in range(number - 1)}
    return {**things, f"a{number - 1}": ("list", ())}


def chain_graph(number):
    return Graph("a0", chain(number))


class Case(unittest.TestCase):
    """Tests that look at errors, and that tell True from 1."""

    def assert_exactly(self, told, wanted):
        self.assertEqual(told, wanted)
        self.assertEqual(repr(told), repr(wanted))

    def assert_error(self, error, field, value, call, /, *args, **kwargs):
        """Assert that a call raises just this error, with this very value in its one field."""
        with self.assertRaises(GraphError) as caught:
            call(*args, **kwargs)
        self.assertIs(caught.exception.__class__, error)
        self.assertEqual(list(vars(caught.exception)), [field])
        told = vars(caught.exception)[field]
        if isinstance(value, (str, int)) and not isinstance(value, bool):
            self.assertIs(told.__class__, value.__class__)
            self.assertTrue(told == value)
        else:
            self.assertIs(told, value)


def rings(sizes, both=True, kind="set"):
    """A graph with rings in a set: each object refers to the next one of its ring, and perhaps to the one before."""
    things = {}
    for number, size in enumerate(sizes):
        marks = [f"{'abcdefghijkl'[number]}{index}" for index in range(size)]
        for index, mark in enumerate(marks):
            worths = [at(marks[(index + 1) % size]), at(marks[index - 1])]
            parts = tuple(dict.fromkeys(worths if both else worths[:1]))
            things[mark] = (kind, tuple((part, part) for part in parts) if kind == "dict" else parts)
    return Graph("root", {"root": ("set", tuple(at(mark) for mark in things)), **things})


def twins(number, thing=("list", ())):
    """A graph whose root is a set of alike objects, as many as that."""
    marks = [f"t{index}" for index in range(number)]
    return Graph("root", {"root": ("set", tuple(at(mark) for mark in marks)), **dict.fromkeys(marks, thing)})
