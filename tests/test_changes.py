"""Changes and differences (16): graph - other and graph + change."""

import random

from samebytes.errors import BadArgument, BadChange, GraphError, LimitExceeded, MissingObject
from samebytes.graphs import Graph
from tests.helpers import STRANGE, Case, at, chain, chain_graph

EMPTY = ("list", ())


def plus(graph, change):
    return graph + change


def minus(graph, other):
    return graph - other


def some_graphs(number):
    """Graphs with few marks and worths, so that they share much; the same ones at each run."""
    source = random.Random(16)
    made = []
    while len(made) < number:
        marks = source.sample(["a", "b", "c", "d", "e"], source.randint(1, 4))
        worths = [at(mark) for mark in marks] * 2 + [0, 1, "x"]
        things = {}
        for mark in marks:
            parts = source.sample(worths, source.randint(0, 3))
            kind = source.choice(["list", "set", "dict", "record"])
            fields = tuple(zip(["left", "middle", "right"], parts))
            things[mark] = {"list": ("list", tuple(parts)), "set": ("set", tuple(sorted(set(parts), key=repr))),
                            "dict": ("dict", tuple({part: 1 for part in parts}.items())),
                            "record": ("record", "some", fields)}[kind]
        try:
            made.append(Graph(marks[0], things))
        except GraphError:
            continue
    return made


class TestDifference(Case):

    def setUp(self):
        self.graph = Graph("a", {"a": ("list", (at("b"), at("c"), 1)), "b": ("set", (1, at("c"))), "c": EMPTY})

    def test_none(self):
        same = Graph("a", {"c": EMPTY, "b": ("set", (at("c"), 1)), "a": ("list", (at("b"), at("c"), 1))})
        self.assert_exactly(self.graph - same, (None, {}))
        self.assert_exactly(self.graph - self.graph, (None, {}))

    def test_objects_that_the_other_one_has_not(self):
        other = Graph("a", {"a": ("list", (at("b"), at("c"), 1)), "b": ("set", (1,)), "c": EMPTY})
        self.assert_exactly(self.graph - other, (None, {"b": ("set", (1, at("c")))}))
        other = Graph("a", {"a": EMPTY})
        self.assert_exactly(self.graph - other, (None, self.graph.objects))

    def test_objects_that_only_the_other_one_has(self):
        other = Graph("a", {**self.graph.objects, "c": ("list", (at("d"),)), "d": EMPTY})
        self.assert_exactly(self.graph - other, (None, {"c": EMPTY}))

    def test_another_root(self):
        ring = {"a": ("list", (at("b"),)), "b": ("list", (at("a"),))}
        self.assert_exactly(Graph("a", ring) - Graph("b", ring), ("a", {}))
        self.assert_exactly(Graph("a", ring) - Graph("a", ring), (None, {}))
        self.assert_exactly(self.graph.part("b") - self.graph, ("b", {}))
        self.assert_exactly(self.graph - self.graph.part("b"), ("a", {"a": ("list", (at("b"), at("c"), 1))}))

    def test_it_is_by_marks(self):
        other = self.graph.renamed({"a": "z"})
        self.assert_exactly(self.graph - other, ("a", {"a": ("list", (at("b"), at("c"), 1))}))

    def test_parts_ascend(self):
        one = Graph("a", {"a": ("dict", ((at("a"), 1), ("k", 2), (7, 3)))})
        told = one - Graph("a", {"a": EMPTY})
        self.assert_exactly(told, (None, {"a": ("dict", ((7, 3), ("k", 2), (at("a"), 1)))}))

    def test_the_dict_is_new(self):
        other = Graph("a", {"a": EMPTY})
        (self.graph - other)[1].clear()
        self.assert_exactly(self.graph - other, (None, self.graph.objects))

    def test_it_leads_from_one_to_the_other_and_is_the_least(self):
        graphs = some_graphs(40)
        for one in graphs:
            for other in graphs:
                root, objects = one - other
                self.assertEqual(other + (root, objects), one)
                self.assertIs(root is None, one.root == other.root)
                for left_out in objects:
                    fewer = {mark: objects[mark] for mark in objects if mark != left_out}
                    self.assertFalse(leads_to(other, (root, fewer), one))
                if root is not None:
                    self.assertFalse(leads_to(other, (None, objects), one))

    def test_no_graph(self):
        for value in STRANGE + [("a", {"a": EMPTY}), (None, {}), {"a": EMPTY}, "a", 0]:
            self.assert_error(BadArgument, "value", value, minus, self.graph, value)


def leads_to(graph, change, other):
    try:
        return graph + change == other
    except GraphError:
        return False


class TestChange(Case):

    def setUp(self):
        self.graph = Graph("a", {"a": ("list", (at("b"), at("c"))), "b": ("set", (at("d"),)), "c": EMPTY, "d": EMPTY})

    def test_no_change(self):
        for change in ((None, {}), ("a", {}), (None, {"c": EMPTY}), ("a", self.graph.objects)):
            self.assertEqual(self.graph + change, self.graph)

    def test_an_object_put_in_place_of_another_one(self):
        told = self.graph + (None, {"c": ("dict", ((at("d"), 1), (7, 2)))})
        self.assert_exactly(told["c"], ("dict", ((7, 2), (at("d"), 1))))
        self.assert_exactly((told.root, told.marks), ("a", ["a", "b", "c", "d"]))

    def test_objects_put_beside(self):
        told = self.graph + (None, {"c": ("list", (at("e"),)), "e": ("list", (at("f"),)), "f": ("set", (1,))})
        self.assert_exactly(told.marks, ["a", "b", "c", "d", "e", "f"])
        self.assert_exactly(told["f"], ("set", (1,)))

    def test_what_nothing_refers_to_is_gone(self):
        told = self.graph + (None, {"b": ("set", (2,))})
        self.assertEqual(told, Graph("a", {"a": ("list", (at("b"), at("c"))), "b": ("set", (2,)), "c": EMPTY}))
        told = self.graph + (None, {"a": ("list", (1,))})
        self.assertEqual(told, Graph("a", {"a": ("list", (1,))}))
        told = self.graph + (None, {"e": ("list", (at("a"),)), "f": EMPTY})
        self.assertEqual(told, self.graph)

    def test_a_ring_that_nothing_refers_to_is_gone(self):
        graph = Graph("a", {"a": ("list", (at("b"),)), "b": ("list", (at("c"),)), "c": ("list", (at("b"),))})
        self.assertEqual(graph + (None, {"a": EMPTY}), Graph("a", {"a": EMPTY}))

    def test_another_root(self):
        self.assertEqual(self.graph + ("b", {}), Graph("b", {"b": ("set", (at("d"),)), "d": EMPTY}))
        told = self.graph + ("e", {"e": ("list", (at("a"),))})
        self.assertEqual(told, Graph("e", {**self.graph.objects, "e": ("list", (at("a"),))}))
        self.assertEqual(self.graph + ("e", {"e": EMPTY}), Graph("e", {"e": EMPTY}))
        self.assertEqual(self.graph + ("d", {"d": ("list", (at("c"),))}),
                         Graph("d", {"d": ("list", (at("c"),)), "c": EMPTY}))

    def test_what_is_no_change(self):
        wrong = [(), (None,), ({},), (None, {}, None), [None, {}], (None, None), ("a", None), (None, []), (None, "a"),
                 (None, [("a", EMPTY)]), (None, (("a", EMPTY),)), (0, {}), (True, {}), (False, {}), ("", {}), ("A", {}),
                 ("1a", {}), ("abcdefghi", {}), (at("a"), {}), ([], {}), (b"a", {}), ({}, None), {None: {}}, self.graph,
                 (None, self.graph)]
        for value in wrong + STRANGE:
            self.assert_error(BadChange, "value", value, plus, self.graph, value)
        for key in (1, True, None, "", "A", "1a", "abcdefghi", at("a"), b"a"):
            for value in ((None, {key: EMPTY}), (None, {"a": EMPTY, key: EMPTY}), ("x", {key: EMPTY})):
                self.assert_error(BadChange, "value", value, plus, self.graph, value)
        for thing in STRANGE + [("list",), ("set", (1, 1)), ("list", (True,)), ("list", (1,) * 31), 0, "a"]:
            for value in ((None, {"a": thing}), (None, {"a": EMPTY, "b": thing}), ("x", {"zz": thing})):
                self.assert_error(BadChange, "value", value, plus, self.graph, value)

    def test_the_number_of_objects(self):
        self.assertEqual(self.graph + ("a0", chain(60)), chain_graph(60))
        for number in (61, 62, 100):
            self.assert_error(LimitExceeded, "number", number, plus, self.graph, ("a0", chain(number)))
        more = {**chain(57), "d": ("list", (at("a0"),))}
        self.assert_error(LimitExceeded, "number", 61, plus, self.graph, (None, more))
        self.assertEqual(len(self.graph + (None, {**chain(56), "d": ("list", (at("a0"),))})), 60)

    def test_only_what_can_be_reached_counts(self):
        self.assertEqual(self.graph + (None, chain(200)), self.graph)
        self.assertEqual(chain_graph(60) + (None, {"b": EMPTY, "a59": ("list", (1,))}),
                         Graph("a0", {**chain(60), "a59": ("list", (1,))}))
        self.assertEqual(chain_graph(60) + ("b", {**chain(59), "b": ("list", (at("a0"),))}),
                         Graph("b", {**chain(59), "b": ("list", (at("a0"),))}))
        self.assert_error(LimitExceeded, "number", 61, plus, chain_graph(60),
                          (None, {"a59": ("list", (at("b"),)), "b": EMPTY, "c": EMPTY, "d": ("list", (at("e"),))}))

    def test_an_object_that_lacks(self):
        self.assert_error(MissingObject, "mark", "e", plus, self.graph, (None, {"c": ("list", (at("e"),))}))
        self.assert_error(MissingObject, "mark", "e", plus, self.graph,
                          (None, {"c": ("list", (at("f"), at("g"))), "b": ("dict", ((at("e"), at("h")),))}))
        self.assert_error(MissingObject, "mark", "x", plus, self.graph,
                          (None, {"a": ("list", (at("y"),)), "y": ("set", (at("x"), at("z")))}))

    def test_the_root_lacks(self):
        self.assert_error(MissingObject, "mark", "z", plus, self.graph, ("z", {}))
        self.assert_error(MissingObject, "mark", "z", plus, self.graph, ("z", {"a": ("list", (at("e"),))}))
        self.assert_error(MissingObject, "mark", "z", plus, self.graph, ("z", chain(61)))

    def test_what_only_gone_objects_refer_to_may_lack(self):
        self.assertEqual(self.graph + (None, {"e": ("list", (at("f"),))}), self.graph)
        self.assertEqual(self.graph + ("c", {"d": ("list", (at("f"),)), "b": ("list", (at("e"),))}),
                         Graph("c", {"c": EMPTY}))

    def test_too_many_come_before_what_lacks(self):
        things = {**chain(61), "a60": ("list", (at("e"), at("a99")))}
        self.assert_error(LimitExceeded, "number", 61, plus, self.graph, ("a0", things))
        fewer = {**chain(60), "a59": ("list", (at("e"), at("a99")))}
        self.assert_error(MissingObject, "mark", "a99", plus, self.graph, ("a0", fewer))

    def test_in_place(self):
        graph = self.graph
        graph += (None, {"a": EMPTY})
        self.assertEqual(graph, Graph("a", {"a": EMPTY}))
        self.assertEqual(len(self.graph), 4)
