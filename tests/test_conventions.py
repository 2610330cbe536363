"""The conventions (2): where things are defined, and that nothing changes that is not to change."""

import inspect

from samebytes import colours, forms, graphs, maps, objects, papers, pieces, symmetries, texts
from samebytes.errors import GraphError
from samebytes.graphs import Graph
from samebytes.objects import ordered, places, references, replaced
from tests.helpers import Case, at

LISTED = ["is_mark", "is_name", "is_plain", "is_worth", "is_object", "ordered", "references", "places", "replaced"]
FURTHER = [(texts, ["write", "read"]), (maps, ["keeps", "then", "backwards"]), (colours, ["look_alike", "rounds", "classes"]),
           (papers, ["is_same", "sameness", "difference", "check_difference", "every_map"]), (forms, ["one_text", "numbering"]),
           (symmetries, ["symmetries", "carried", "families", "number_paper", "check_number", "made_by"]),
           (pieces, ["pieces", "ports", "shape", "alike_pieces"])]
METHODS = ["root", "marks", "objects", "walk", "referrers", "part", "renamed", "__init__", "__getitem__",
           "__contains__", "__len__", "__iter__", "__eq__", "__call__", "__sub__", "__add__"]


def things():
    return {"a": ("set", (at("b"), 1)), "b": ("dict", ((at("a"), at("c")), (1, "x"))), "c": ("list", ())}


def all_told(graph):
    """All that a graph tells, without any list or dict that could change."""
    return repr([graph.root, graph.marks, sorted(graph.objects.items()), list(graph), len(graph), list(graph.walk()),
                 [graph.referrers(mark) for mark in graph], [graph.part(mark).objects for mark in graph],
                 graph(()), graph.renamed({"a": "z"}).objects, graph - Graph("c", {"c": ("list", ())})])


class TestWhereThingsAre(Case):

    def test_functions(self):
        for name in LISTED:
            self.assertEqual(vars(objects)[name].__module__, "samebytes.objects")

    def test_functions_of_the_further_files(self):
        for file, names in FURTHER:
            for name in names:
                self.assertEqual(vars(file)[name].__module__, file.__name__)

    def test_every_map_is_a_generator(self):
        self.assertTrue(inspect.isgeneratorfunction(papers.every_map))

    def test_the_class_and_its_methods(self):
        self.assertEqual(vars(graphs)["Graph"].__module__, "samebytes.graphs")
        for name in METHODS:
            self.assertIn(name, vars(Graph))


class TestNothingElseChanges(Case):

    def test_what_was_given_may_change_later(self):
        given = things()
        graph = Graph("a", given)
        told = all_told(graph)
        given["c"] = ("list", (1,))
        given["d"] = None
        del given["b"]
        self.assertEqual(all_told(graph), told)

    def test_what_was_given_to_renamed_may_change_later(self):
        marks = {"a": "z"}
        graph = Graph("a", things()).renamed(marks)
        told = all_told(graph.renamed({"z": "a"}))
        marks["b"] = "c"
        del marks["a"]
        self.assertEqual(all_told(graph.renamed({"z": "a"})), told)

    def test_a_change_that_was_given_may_change_later(self):
        change = (None, {"c": ("list", (1,))})
        graph = Graph("a", things()) + change
        told = all_told(graph)
        change[1]["c"] = None
        change[1]["a"] = ("list", ())
        self.assertEqual(all_told(graph), told)

    def test_what_was_returned_may_change(self):
        graph = Graph("a", things())
        told = all_told(graph)
        objects_told = graph.objects
        objects_told["a"] = None
        objects_told.clear()
        graph.marks.append("d")
        graph.marks.clear()
        graph.referrers("a").clear()
        graph.part("b").objects.clear()
        graph.part("b").marks.clear()
        (graph - Graph("c", {"c": ("list", ())}))[1].clear()
        self.assertEqual(all_told(graph), told)

    def test_parts_of_a_graph_do_not_hang_together(self):
        graph = Graph("a", things())
        first, second = graph.objects, graph.objects
        first.clear()
        self.assertEqual(len(second), 3)
        marks, others = graph.marks, graph.marks
        marks.clear()
        self.assertEqual(others, ["a", "b", "c"])

    def test_no_call_changes_what_it_was_given(self):
        given = things()
        marks = {"c": "b", "b": "a", "a": "c"}
        change = ("b", {"d": ("list", ()), "a": ("list", (at("d"),))})
        told = repr((given, marks, change))
        graph = Graph("a", given)
        graph.renamed(marks)
        self.assertEqual(len(graph + change), 4)
        replaced(given["b"], marks)
        for call in (lambda: Graph("z", given), lambda: graph.renamed({**marks, "c": "a"}),
                     lambda: graph + ("z", change[1])):
            self.assertRaises(GraphError, call)
        self.assertEqual(repr((given, marks, change)), told)

    def test_a_graph_stays_what_it_is(self):
        graph = Graph("a", things())
        told = all_told(graph)
        self.assertEqual(len(graph + ("c", {})), 1)
        graph.part("c")
        graph.renamed({"a": "x"})
        for call in (lambda: graph + ("z", {}), lambda: graph - None, lambda: graph["z"], lambda: graph(None),
                     lambda: graph(("z",)), lambda: graph.part("z"), lambda: graph.referrers(1),
                     lambda: graph.renamed({"a": "b"})):
            self.assertRaises(GraphError, call)
        self.assertEqual(all_told(graph), told)

    def test_while_a_walk_or_a_loop_goes_on(self):
        graph = Graph("a", things())
        told = []
        for mark in graph.walk():
            graph.marks.clear()
            graph.objects.clear()
            told.append(mark)
        for mark in graph:
            graph.marks.clear()
            told.append(mark)
        self.assertEqual(told, ["a", "b", "c", "a", "b", "c"])


class TestArguments(Case):

    def test_names_in_any_order(self):
        thing = ("list", (at("b"), 2))
        self.assert_exactly(ordered(thing=thing), thing)
        self.assert_exactly(references(thing=thing), ["b"])
        self.assert_exactly(places(thing=thing), [(("item", 0), at("b")), (("item", 1), 2)])
        self.assert_exactly(replaced(marks={"b": "c"}, thing=thing), ("list", (at("c"), 2)))
        for name in LISTED[:5]:
            self.assertIs(vars(objects)[name](value=None), False)
        graph = Graph(objects=things(), root="a")
        self.assertEqual(graph.part(mark="a"), graph)
        self.assertEqual(graph.renamed(marks={}), graph)
        self.assertEqual(graph(path=()), at("a"))
        self.assertEqual(graph.referrers(mark="c"), ["b"])

    def test_results_are_of_the_plain_kinds(self):
        graph = Graph("a", things())
        self.assertIs(graph.marks.__class__, list)
        self.assertIs(graph.objects.__class__, dict)
        self.assertIs(graph.referrers("a").__class__, list)
        self.assertIs((graph - graph).__class__, tuple)
        self.assertIs((graph - graph)[1].__class__, dict)
        self.assertIs((graph + (None, {})).__class__, Graph)
        self.assertIs(references(("list", ())).__class__, list)
        self.assertIs(places(("list", ())).__class__, list)


class TestTrueAndFalse(Case):

    def test_they_are_no_integers(self):
        ones = Graph("a", {"a": ("dict", ((0, at("b")), (1, at("b")))), "b": ("list", (0, 1))})
        for flag in (True, False):
            for function in (objects.is_mark, objects.is_name, objects.is_plain, objects.is_worth, objects.is_object):
                self.assertIs(function(flag), False)
            self.assertRaises(GraphError, ones, (flag,))
            self.assertRaises(GraphError, ones, (0, flag))
            self.assertIs(flag in ones, False)
            self.assertIs(ones == flag, False)
            self.assertRaises(GraphError, Graph, "a", {"a": ("list", (flag,))})
            self.assertRaises(GraphError, lambda: ones + (None, {"b": ("list", (flag, 1))}))
