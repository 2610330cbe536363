"""The arguments of all functions (2): by name, wrong ones, several wrong ones at once, and that nothing else changes."""

import copy
import itertools

from samebytes.colours import classes, look_alike, rounds
from samebytes.errors import BadArgument, BadMap, BadMark, BadMarked, BadPiece, UnknownMark
from samebytes.forms import numbering, one_text
from samebytes.graphs import Graph
from samebytes.journals import check_sum, journal
from samebytes.maps import backwards, keeps, then
from samebytes.merges import check_merge, clashes, merge
from samebytes.nearest import cost, cost_bound, nearest
from samebytes.papers import check_difference, difference, every_map, is_same, sameness
from samebytes.pieces import alike_pieces, pieces, ports, shape
from samebytes.symmetries import carried, check_number, families, made_by, number_paper, symmetries
from samebytes.texts import write
from samebytes.versions import History
from tests.helpers import NO_DICTS, STRANGE, Case, at, rings

ONE = Graph("a", {"a": ("set", (at("b"), at("c"), 5)), "b": ("list", ()), "c": ("list", ())})
OTHER = Graph("z", {"z": ("set", (at("b"), 5, at("y"))), "b": ("list", ()), "y": ("list", ())})
UNLIKE = Graph("z", {"z": ("dict", ((at("b"), at("y")),)), "b": ("list", ()), "y": ("list", ())})
RINGS = rings([3, 4, 3])
SWAP = {"a": "a", "b": "c", "c": "b"}
KEPT = {"a": "z", "b": "b", "c": "y"}
PAPER = ("bags", [({"a": 0, "b": 1, "c": 1}, {"z": 2, "b": 1, "y": 1})])

# Wrong values of each kind of argument, each with its error.
NO_GRAPHS = [(BadArgument, value) for value in [*STRANGE, "a", ONE.objects, ("a", ONE.objects), [ONE], Graph]]
NO_MARKED = [(BadMarked, value) for value in
             [None, True, 1, "a", "", ["a"], [], {"a": 1}, {}, ("d",), ("a", "d"), ("A",), ("",), (1,), (True,), (None,), (("a",),),
              (["a"],), ({},), (at("a"),), ("a", None), ("z",), {"a"}, ONE]]
NO_OTHERS = [(BadMarked, value) for value in
             [None, True, 1, "z", "", ["z"], [], {"z": 1}, {}, (), ("a",), ("z", "z"), ("c",), ("Z",), (1,), (None,), (("z",),), (["z"],),
              ({},), (at("z"),), {"z"}, OTHER]]
NO_MARKS = [(BadMark, value) for value in STRANGE + ["", "1a", "abcdefghi", at("a")]] + \
           [(UnknownMark, "d"), (UnknownMark, "root"), (UnknownMark, "x0")]
NO_MAPS = [(BadMap, value) for value in
           NO_DICTS + [{"a": "b", "c": "b"}, {"a": 1}, {1: "a"}, {"A": "a"}, {"a": "A"}, {"a": None}, {"a": ["b"]}, {None: "a"}, {"a": at("b")},
                       {at("a"): "b"}, {"a": "a", "b": "1"}, {"abcdefghi": "a"}, {"": "a"}, {"a": True}, {("a",): "a"}, [("a", "b")]]]


def no_colourings(graph):
    right = dict.fromkeys(graph, 0)
    first, last = graph.marks[0], graph.marks[-1]
    wrong = [{}, {first: 0}, {**right, "d": 0}, {**right, 1: 0}, {**right, None: 0}, {"d": 0, "e": 0, "f": 0}]
    wrong += [{**right, last: number} for number in (-1, True, False, None, "0", 1.0, 0.0, [0], (0,), {}, "a")]
    wrong.append({mark: 0 for mark in graph if mark != first} | {first.upper(): 0})
    return [(BadMap, value) for value in NO_DICTS + wrong]


NO_PIECES = [(BadPiece, value) for value in [value for value in STRANGE if value != ["a"]] +
             [["a", "b"], ["b", "c"], ["d"], ["a", "a"], ("a",), "a", {"a"}, [["a"]], [at("a")], [1], ["A"], ["a", None]]]

# Each function with right arguments in their order, and for each of them what is wrong in its place.
GRAPH = ("graph", ONE, NO_GRAPHS)
GRAPHS = [("one", ONE, NO_GRAPHS), ("other", OTHER, NO_GRAPHS)]
MARKED = [("marked", ("b",), NO_MARKED), ("others", ("z",), NO_OTHERS)]
COLOURED = [("one", ONE, NO_GRAPHS), ("first", {"a": 0, "b": 1, "c": 1}, no_colourings(ONE)), ("mark", "b", NO_MARKS + [(UnknownMark, "z")]),
            ("other", OTHER, NO_GRAPHS), ("second", {"z": 0, "b": 1, "y": 1}, no_colourings(OTHER)),
            ("target", "y", NO_MARKS + [(UnknownMark, "c")])]
CALLS = [
    (write, [("graph", ONE, NO_GRAPHS)]),
    (keeps, [*GRAPHS, ("value", KEPT, []), *MARKED]),
    (then, [("first", {"a": "b", "c": "a"}, NO_MAPS), ("second", {"b": "x", "a": "b", "d": "d"}, NO_MAPS)]),
    (backwards, [("first", {"a": "b", "c": "a"}, NO_MAPS)]),
    (look_alike, COLOURED),
    (rounds, [*GRAPHS, *MARKED]),
    (classes, [("graph", ONE, NO_GRAPHS), ("marked", ("b",), NO_MARKED)]),
    (is_same, GRAPHS),
    (sameness, [*GRAPHS, *MARKED]),
    (difference, [*GRAPHS, *MARKED]),
    (check_difference, [*GRAPHS, ("value", PAPER, []), *MARKED]),
    (difference, [("one", ONE, NO_GRAPHS), ("other", UNLIKE, NO_GRAPHS), *MARKED]),
    (symmetries, [GRAPH, ("marked", ("a",), NO_MARKED)]),
    (carried, [GRAPH, ("mark", "b", NO_MARKS), ("target", "c", NO_MARKS)]),
    (families, [GRAPH, ("marked", ("a",), NO_MARKED)]),
    (number_paper, [GRAPH]),
    (number_paper, [("graph", RINGS, NO_GRAPHS)]),
    (check_number, [GRAPH, ("number", 2, []), ("value", number_paper(ONE), [])]),
    (made_by, [GRAPH, ("maps", [SWAP], [(BadMap, value) for value in [None, True, (), {}, "", (SWAP,), SWAP, [{}], [None], [SWAP, KEPT], ["a"]]])]),
    (one_text, [GRAPH]),
    (numbering, [GRAPH]),
    (pieces, [GRAPH]),
    (ports, [GRAPH, ("piece", ["a"], NO_PIECES)]),
    (shape, [GRAPH, ("piece", ["a"], NO_PIECES)]),
    (alike_pieces, [("one", ONE, NO_GRAPHS), ("piece", ["a"], NO_PIECES), ("other", OTHER, NO_GRAPHS), ("target", ["z"], NO_PIECES)]),
]
# Of two graphs that come from ONE, and of two that clash at b and at the root.
HERE = ONE + (None, {"b": ("list", (1,)), "a": ("set", (at("b"), at("c"), 5, 6))})
THERE = ONE + (None, {"c": ("dict", ((1, at("a")),)), "a": ("set", (at("b"), at("c")))})
MERGED = [("base", ONE, NO_GRAPHS), ("one", HERE, NO_GRAPHS), ("other", THERE, NO_GRAPHS)]
CLASHING = [("base", ONE, NO_GRAPHS), ("one", HERE, NO_GRAPHS), ("other", ONE + ("n", {"n": ("list", (at("a"),)), "b": ("set", ())}), NO_GRAPHS)]
HISTORY = History()
HISTORY.commit(ONE)
HISTORY.commit(HERE, (0,))


def objects_and_paper(base, one, other):
    graph, paper = merge(base, one, other)
    return (graph.root, graph.objects, paper)


CALLS += [
    (cost, [*GRAPHS, ("value", {"a": "z", "b": "b"}, NO_MAPS + [(BadMap, {"z": "a"}), (BadMap, {"a": "z", "b": "z"})])]),
    (nearest, GRAPHS),
    (nearest, [("one", ONE, NO_GRAPHS), ("other", UNLIKE, NO_GRAPHS)]),
    (cost_bound, [("one", RINGS, NO_GRAPHS), ("other", OTHER, NO_GRAPHS)]),
    (objects_and_paper, MERGED),
    (clashes, MERGED),
    (clashes, CLASHING),
    (check_merge, [*MERGED, ("value", merge(ONE, HERE, THERE)[0], []), ("paper", merge(ONE, HERE, THERE)[1], [])]),
    (check_merge, [*CLASHING, ("value", HERE, []), ("paper", {}, [])]),
    (check_sum, [("index", 3, []), ("line", "0 root a", [])]),
    (journal, [("history", HISTORY, NO_GRAPHS + [(BadArgument, ONE), (BadArgument, History)])]),
]
GENERATORS = [(every_map, GRAPHS)]


def listed(call):
    return lambda *args, **kwargs: list(call(*args, **kwargs))


ALL_CALLS = CALLS + [(listed(call), arguments) for call, arguments in GENERATORS]


def scribble(value):
    """Change every list and dict that can be reached in a value."""
    if isinstance(value, (list, tuple)):
        for part in value:
            scribble(part)
    if isinstance(value, dict):
        for part in value.values():
            scribble(part)
        value["scribble"] = None
    if isinstance(value, list):
        value.append("scribble")


def containers(value):
    """All lists and dicts that stand in a value, one that stands there twice as two."""
    told = [value] if isinstance(value, (list, dict)) else []
    parts = value if isinstance(value, (list, tuple)) else value.values() if isinstance(value, dict) else ()
    return told + [inner for part in parts for inner in containers(part)]


class TestArguments(Case):

    def test_by_name_in_any_order(self):
        for call, arguments in ALL_CALLS:
            right = {name: value for name, value, _ in arguments}
            told = call(*right.values())
            for order in itertools.islice(itertools.permutations(right), 0, 720, 7):
                self.assert_exactly(call(**{name: right[name] for name in order}), told)
            if len(right) > 1:
                first, *rest = right
                self.assert_exactly(call(right[first], **{name: right[name] for name in rest}), told)

    def test_marked_left_out(self):
        for call, arguments in ALL_CALLS:
            right = {name: value for name, value, _ in arguments if name not in ("marked", "others")}
            if len(right) < len(arguments):
                empty = {name: () for name in ("marked", "others") if name in [told[0] for told in arguments]}
                self.assert_exactly(call(**right), call(**right, **empty))

    def test_marked_without_others(self):
        for call, arguments in ALL_CALLS:
            right = {name: value for name, value, _ in arguments}
            if "others" in right:
                del right["others"]
                self.assert_error(BadMarked, "value", (), call, **right)

    def test_others_without_marked(self):
        for call, arguments in ALL_CALLS:
            right = {name: value for name, value, _ in arguments}
            if "others" in right:
                del right["marked"]
                others = right["others"]
                self.assert_error(BadMarked, "value", others, call, **right)

    def test_one_wrong_argument(self):
        for call, arguments in ALL_CALLS:
            right = {name: value for name, value, _ in arguments}
            for name, _, wrong in arguments:
                for error, value in wrong:
                    with self.subTest(call.__name__, name=name, kind=value.__class__):
                        self.assert_error(error, "value", value, call, **{**right, name: value})

    def test_several_wrong_arguments(self):
        for call, arguments in ALL_CALLS:
            right = {name: value for name, value, _ in arguments}
            for (name, _, wrong), (further, _, worse) in itertools.combinations(arguments, 2):
                for error, value in wrong[::5]:
                    for _, nothing in worse[::5]:
                        self.assert_error(error, "value", value, call, **{**right, name: value, further: nothing})

    def test_generators_raise_at_the_first_step(self):
        for call, arguments in GENERATORS:
            for name, _, wrong in arguments:
                for error, value in wrong:
                    told = call(**{**{name: value for name, value, _ in arguments}, name: value})
                    self.assertIs(iter(told), told)
                    self.assert_error(error, "value", value, next, told)

    def test_nothing_that_was_given_is_changed(self):
        for call, arguments in ALL_CALLS:
            given = [value for _, value, _ in arguments]
            before = [copy.deepcopy(value) for value in given]
            shown = [repr(value) for value in given if not isinstance(value, Graph)]
            call(*given)
            self.assertEqual(given, before)
            self.assertEqual([repr(value) for value in given if not isinstance(value, Graph)], shown)

    def test_what_was_returned_may_change(self):
        for call, arguments in ALL_CALLS:
            given = [value for _, value, _ in arguments]
            told = call(*given)
            shown = repr(told)
            self.assertEqual(repr(call(*given)), shown)
            scribble(told)
            self.assertEqual(repr(call(*given)), shown)

    def test_what_was_given_may_change_later(self):
        for call, arguments in ALL_CALLS:
            given = [copy.deepcopy(value) if isinstance(value, (dict, list, tuple)) else value for _, value, _ in arguments]
            told = call(*given)
            shown = repr(told)
            scribble(given)
            self.assertEqual(repr(told), shown)

    def test_each_list_and_dict_stands_in_one_place(self):
        for call, arguments in ALL_CALLS:
            given = [value for _, value, _ in arguments]
            told = containers(call(*given)) + containers(call(*given)) + containers(given)
            self.assertEqual(len({id(value) for value in told}), len(told))
