"""Maps that keep graphs (7), and maps one after another and backwards."""

import itertools

from samebytes.errors import BadMap
from samebytes.graphs import Graph
from samebytes.maps import backwards, keeps, then
from tests import oracle
from tests.helpers import HUGE, STRANGE, Case, Odd, at


def graph_of(thing, **others):
    """A graph with this object as its root, and two lists b and c behind it."""
    things = {"b": ("list", (1,)), "c": ("list", (2,)), **others}
    return Graph("r", {"r": ("list", (at("a"), at("b"), at("c"))), "a": thing, **things})


STAY = {mark: mark for mark in ("r", "a", "b", "c")}


class TestKeeps(Case):

    def assert_keeps(self, one, other, value, *marked):
        self.assertIs(keeps(one, other, value, *marked), True)

    def assert_not(self, one, other, value, *marked):
        self.assertIs(keeps(one, other, value, *marked), False)

    def test_any_value(self):
        graph = Graph("a", {"a": ("set", (at("b"),)), "b": ("list", ())})
        self.assert_keeps(graph, graph, {"a": "a", "b": "b"})
        for value in [*STRANGE, "z", HUGE, graph, [("a", "a"), ("b", "b")], (("a", "a"), ("b", "b")), {"a", "b"}, Odd()]:
            self.assert_not(graph, graph, value)
            self.assert_not(graph, graph, {"a": "a", "b": value})
            self.assert_not(graph, graph, {"a": value, "b": "b"})
        for key in (None, True, 0, 1, "z", "A", ("at", "b"), ("b",), b"b", 1.5, HUGE, frozenset("b")):
            self.assert_not(graph, graph, {"a": "a", key: "b"})
            self.assert_not(graph, graph, {"a": "a", "b": "b", key: "b"})

    def test_marks_that_lack_or_are_too_many(self):
        one = Graph("a", {"a": ("set", (at("b"),)), "b": ("list", ())})
        for value in ({}, {"a": "a"}, {"b": "b"}, {"a": "a", "b": "b", "c": "c"}, {"a": "a", "c": "b"}, {"a": "a", "b": "c"}, {"b": "b", "c": "c"}):
            self.assert_not(one, one, value)

    def test_one_to_one(self):
        one = Graph("a", {"a": ("set", (at("b"), at("c"))), "b": ("list", ()), "c": ("list", ())})
        other = Graph("a", {"a": ("set", (at("b"),)), "b": ("list", ())})
        self.assert_keeps(one, one, {"a": "a", "b": "c", "c": "b"})
        self.assert_not(one, one, {"a": "a", "b": "b", "c": "b"})
        self.assert_not(one, other, {"a": "a", "b": "b", "c": "b"})
        self.assert_not(other, one, {"a": "a", "b": "b"})
        pair = Graph("a", {"a": ("list", (at("b"), at("c"))), "b": ("list", ()), "c": ("list", ())})
        self.assert_not(pair, Graph("a", {"a": ("list", (at("b"), at("b"))), "b": ("list", ())}), {"a": "a", "b": "b", "c": "b"})

    def test_the_root(self):
        ring = {"a": ("list", (at("b"),)), "b": ("list", (at("a"),))}
        self.assert_keeps(Graph("a", ring), Graph("b", ring), {"a": "b", "b": "a"})
        self.assert_not(Graph("a", ring), Graph("b", ring), {"a": "a", "b": "b"})
        self.assert_not(Graph("a", ring), Graph("a", ring), {"a": "b", "b": "a"})

    def test_each_kind_bent_at_one_part(self):
        right = {
            "record": [("record", "pair", (("left", 1), ("right", at("b")))), ("record", "pair", (("right", at("b")), ("left", 1)))],
            "list": [("list", (1, at("b"), "x"))],
            "set": [("set", (1, at("b"), at("a"), "x")), ("set", ("x", at("a"), at("b"), 1))],
            "dict": [("dict", ((1, at("b")), (at("b"), 2), (at("a"), at("b")))), ("dict", ((at("a"), at("b")), (1, at("b")), (at("b"), 2)))],
        }
        bent = {
            "record": [("record", "pairs", (("left", 1), ("right", at("b")))), ("record", "pair", (("left", 2), ("right", at("b")))),
                       ("record", "pair", (("left", 1), ("right", at("c")))), ("record", "pair", (("left", "1"), ("right", at("b")))),
                       ("record", "pair", (("left", 1), ("up", at("b")))), ("record", "pair", (("left", 1),)),
                       ("record", "pair", (("left", 1), ("right", at("b")), ("up", 1))),
                       ("record", "pair", (("left", at("b")), ("right", 1))), ("dict", (("left", 1), ("right", at("b"))))],
            "list": [("list", (1, at("b"), "y")), ("list", (1, at("b"))), ("list", (1, at("b"), "x", "x")), ("list", (1, "x", at("b"))),
                     ("list", (1, at("c"), "x")), ("list", (1, "b", "x")), ("set", (1, at("b"), "x")), ("list", (1, at("a"), "x"))],
            "set": [("set", (1, at("b"), at("a"), "y")), ("set", (1, at("b"), at("a"))), ("set", (1, at("b"), at("c"), "x")),
                    ("set", (1, at("b"), at("a"), "x", 2)), ("set", (2, at("b"), at("a"), "x")), ("list", (1, "x", at("a"), at("b")))],
            "dict": [("dict", ((1, at("b")), (at("b"), 2), (at("a"), at("c")))), ("dict", ((1, at("b")), (at("b"), 2), (at("b"), at("a")))[:2]),
                     ("dict", ((1, at("b")), (at("b"), 2), (at("c"), at("b")))), ("dict", ((1, at("b")), (at("b"), 3), (at("a"), at("b")))),
                     ("dict", ((2, at("b")), (at("b"), 2), (at("a"), at("b")))), ("dict", ((at("b"), 1), (2, at("b")), (at("a"), at("b")))),
                     ("dict", ((1, at("a")), (at("b"), 2), (at("a"), at("b")))),
                     ("dict", ((1, at("b")), (at("b"), 2), (at("a"), at("b")), ("k", 1)))],
        }
        for kind, things in right.items():
            for thing, same in itertools.product(things, repeat=2):
                self.assert_keeps(graph_of(thing), graph_of(same), STAY)
            for thing in bent[kind]:
                with self.subTest(thing):
                    self.assert_not(graph_of(things[0]), graph_of(thing), STAY)
                    self.assert_not(graph_of(thing), graph_of(things[0]), STAY)

    def test_images_are_looked_at(self):
        one = graph_of(("dict", ((at("b"), at("c")),)))
        other = one.renamed({"b": "c", "c": "b", "a": "x"})
        self.assert_keeps(one, other, {"r": "r", "a": "x", "b": "c", "c": "b"})
        self.assert_not(one, other, {"r": "r", "a": "x", "b": "b", "c": "c"})
        self.assert_not(one, other, {"r": "x", "a": "r", "b": "c", "c": "b"})

    def test_shared_round_and_own(self):
        ring = Graph("a", {"a": ("list", (at("b"), at("b"))), "b": ("list", (at("c"), at("b"))), "c": ("list", (at("a"), at("c")))})
        self.assert_keeps(ring, ring.renamed({"a": "b", "b": "c", "c": "a"}), {"a": "b", "b": "c", "c": "a"})
        self.assert_not(ring, ring.renamed({"a": "b", "b": "c", "c": "a"}), {"a": "b", "b": "a", "c": "c"})
        own = Graph("a", {"a": ("list", (at("a"), at("b"))), "b": ("list", (at("a"), at("b")))})
        turned = Graph("a", {"a": ("list", (at("b"), at("b"))), "b": ("list", (at("a"), at("b")))})
        self.assert_not(own, turned, {"a": "a", "b": "b"})
        self.assert_keeps(turned, turned, {"a": "a", "b": "b"})

    def test_marked(self):
        graph = Graph("a", {"a": ("set", (at("b"), at("c"))), "b": ("list", ()), "c": ("list", ())})
        swap, stay = {"a": "a", "b": "c", "c": "b"}, {"a": "a", "b": "b", "c": "c"}
        for marked, others, swapped, stayed in (
                ((), (), True, True), (("a",), ("a",), True, True), (("b",), ("c",), True, False), (("b",), ("b",), False, True),
                (("b", "c"), ("c", "b"), True, False), (("b", "c"), ("c", "c"), False, False), (("b", "b"), ("c", "c"), True, False),
                (("b", "b"), ("c", "b"), False, False), (("b", "a", "b"), ("c", "a", "c"), True, False), (("a",), ("b",), False, False)):
            self.assertIs(keeps(graph, graph, swap, marked, others), swapped)
            self.assertIs(keeps(graph, graph, stay, marked, others), stayed)

    def test_against_all_maps(self):
        chance = oracle.chances(7)
        for _ in range(60):
            one = oracle.random_graph(chance, chance.randrange(1, 5))
            other = oracle.shuffled(chance, one)
            right = oracle.all_maps(one, other)
            for images in itertools.permutations(other.marks):
                value = dict(zip(one.marks, images))
                self.assertIs(keeps(one, other, value), value in right)


class TestThen(Case):

    def test_then(self):
        self.assert_exactly(then({}, {}), {})
        self.assert_exactly(then({}, {"a": "b"}), {})
        self.assert_exactly(then({"a": "b", "b": "a"}, {"a": "x", "b": "y"}), {"a": "y", "b": "x"})
        self.assert_exactly(then({"a": "b"}, {"b": "c", "c": "b", "z": "a"}), {"a": "c"})
        turn = {"a": "b", "b": "c", "c": "a"}
        self.assert_exactly(then(turn, turn), {"a": "c", "b": "a", "c": "b"})

    def test_images_that_are_no_keys(self):
        for first, second in (({"a": "b"}, {}), ({"a": "b"}, {"a": "b"}), ({"a": "b", "c": "d"}, {"b": "x"}), ({"a": "a"}, {"b": "a"})):
            self.assert_error(BadMap, "value", second, then, first, second)

    def test_wrong_dicts_come_first(self):
        wrong = {"a": "c", "b": "c"}
        self.assert_error(BadMap, "value", wrong, then, wrong, {})
        self.assert_error(BadMap, "value", wrong, then, {"x": "y"}, wrong)

    def test_backwards(self):
        self.assert_exactly(backwards({}), {})
        self.assert_exactly(backwards({"a": "b", "b": "c"}), {"b": "a", "c": "b"})
        chance = oracle.chances(3)
        for _ in range(20):
            marks = chance.sample("abcdefgh", 5)
            value = dict(zip(marks, chance.sample("abcdefgh", 5)))
            self.assertEqual(backwards(backwards(value)), value)
            self.assertEqual(then(value, backwards(value)), {mark: mark for mark in marks})
