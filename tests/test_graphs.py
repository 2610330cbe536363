"""Graphs (6): how they are made, what they tell, and the way through them."""

import inspect

from samebytes.errors import BadMap, BadMark, BadObject, BadSteps, LimitExceeded, MissingObject, NoPlace
from samebytes.errors import UnknownMark, Unreachable
from samebytes.graphs import Graph
from tests.helpers import HUGE, NO_DICTS, NO_TUPLES, STRANGE, Case, at, chain, chain_graph

BAD_MARKS = STRANGE + ["", "1a", "abcdefghi", "aB", 0, 1, ("at", "a")]
EMPTY = ("list", ())


def things():
    """The objects of a graph with all kinds, a ring, and shared objects."""
    return {
        "b": ("record", "pair", (("right", at("c")), ("left", at("d")))),
        "c": ("dict", ((at("d"), at("b")), ("k", 2), (7, at("e")))),
        "d": ("set", (at("e"), "x", at("d"), 3)),
        "e": ("list", (at("f"), 5, at("f"), "")),
        "f": ("list", ()),
    }


def graph_of_all():
    return Graph("b", things())


class TestMaking(Case):

    def test_one_object(self):
        graph = Graph("a", {"a": EMPTY})
        self.assert_exactly((graph.root, graph.marks, graph.objects), ("a", ["a"], {"a": EMPTY}))

    def test_by_name_in_any_order(self):
        self.assertEqual(Graph(objects={"a": EMPTY}, root="a"), Graph("a", {"a": EMPTY}))

    def test_parts_ascend(self):
        self.assert_exactly(graph_of_all().objects, {
            "b": ("record", "pair", (("left", at("d")), ("right", at("c")))),
            "c": ("dict", ((7, at("e")), ("k", 2), (at("d"), at("b")))),
            "d": ("set", (3, "x", at("d"), at("e"))),
            "e": ("list", (at("f"), 5, at("f"), "")),
            "f": ("list", ()),
        })

    def test_a_root_that_is_no_mark(self):
        for root in BAD_MARKS:
            self.assert_error(BadMark, "value", root, Graph, root, {"a": EMPTY})
            self.assert_error(BadMark, "value", root, Graph, root, None)

    def test_objects_that_are_no_dict(self):
        for objects in NO_DICTS + [[("a", EMPTY)], (("a", EMPTY),), 0, "a"]:
            self.assert_error(BadMap, "value", objects, Graph, "a", objects)

    def test_keys_that_are_no_marks(self):
        for key in (1, 0, True, None, "", "A", "1a", "abcdefghi", ("at", "a"), b"a", 1.5, HUGE):
            for objects in ({key: EMPTY}, {"a": EMPTY, key: EMPTY}, {"a": None, key: None}, {**chain(61), key: EMPTY}):
                self.assert_error(BadMap, "value", objects, Graph, "a", objects)

    def test_values_that_are_no_objects(self):
        for value in STRANGE + [("list",), ("set", (1, 1)), ("list", (1,) * 31), "a", 0]:
            self.assert_error(BadObject, "value", "a", Graph, "a", {"a": value})
            self.assert_error(BadObject, "value", "b", Graph, "a", {"c": value, "b": value, "a": EMPTY})
            self.assert_error(BadObject, "value", "a9", Graph, "x", {**chain(80), "a9": value, "b": value})

    def test_the_number_of_objects(self):
        self.assertEqual(len(chain_graph(60)), 60)
        for number in (61, 62, 100):
            self.assert_error(LimitExceeded, "number", number, Graph, "a0", chain(number))
            self.assert_error(LimitExceeded, "number", number, Graph, "x", chain(number))
        self.assert_error(LimitExceeded, "number", 61, Graph, "a0", {**chain(60), "b": ("list", (at("a"),))})

    def test_the_root_lacks(self):
        self.assert_error(MissingObject, "mark", "a", Graph, "a", {})
        self.assert_error(MissingObject, "mark", "a", Graph, "a", {"b": EMPTY})
        self.assert_error(MissingObject, "mark", "x", Graph, "x", {"b": ("list", (at("a"),))})

    def test_a_reference_lacks(self):
        for thing in (("record", "pair", (("left", at("d")), ("right", at("c")))), ("list", (1, at("d"), at("c"))),
                      ("set", (at("c"), at("d"))), ("dict", ((1, at("c")), (at("d"), 2))),
                      ("dict", ((1, at("d")), (at("c"), 2)))):
            self.assert_error(MissingObject, "mark", "c", Graph, "b", {"b": thing})
            self.assert_error(MissingObject, "mark", "d", Graph, "b", {"b": thing, "c": ("set", (at("d"),))})
            self.assert_error(MissingObject, "mark", "c", Graph, "b", {"b": thing, "d": ("list", ()), "a": EMPTY})

    def test_the_first_one_that_lacks(self):
        objects = {"a": ("list", (at("c"), at("y"))), "b": ("list", (at("z"),)), "c": ("list", (at("x"), at("b")))}
        self.assert_error(MissingObject, "mark", "x", Graph, "a", objects)

    def test_what_an_object_that_cannot_be_reached_lacks(self):
        self.assert_error(MissingObject, "mark", "c", Graph, "a", {"a": EMPTY, "b": ("list", (at("c"),))})

    def test_an_object_that_cannot_be_reached(self):
        self.assert_error(Unreachable, "mark", "b", Graph, "a", {"a": EMPTY, "b": EMPTY})
        self.assert_error(Unreachable, "mark", "a", Graph, "b", {"b": EMPTY, "a": EMPTY, "c": EMPTY})
        ring = {"x": ("list", ()), "c": ("list", (at("b"), at("x"))), "b": ("set", (at("c"),))}
        self.assert_error(Unreachable, "mark", "b", Graph, "x", ring)
        self.assert_error(Unreachable, "mark", "c", Graph, "b", {"b": ("list", (at("b"),)), "c": ("list", (at("b"),))})

    def test_what_is_reached_as_a_key_or_a_worth(self):
        objects = {"a": ("dict", ((at("b"), 1), (2, at("c")))), "b": EMPTY, "c": EMPTY}
        self.assertEqual(Graph("a", objects).marks, ["a", "b", "c"])


class TestTelling(Case):

    def test_root_marks_objects(self):
        graph = graph_of_all()
        self.assert_exactly(graph.root, "b")
        self.assert_exactly(graph.marks, ["b", "c", "d", "e", "f"])
        self.assertEqual(sorted(graph.objects), ["b", "c", "d", "e", "f"])

    def test_marks_ascend_as_texts(self):
        objects = {"z": ("list", (at("a"), at("a10"), at("a2"), at("b"))), "b": EMPTY, "a2": EMPTY, "a10": EMPTY,
                   "a": EMPTY}
        self.assert_exactly(Graph("z", objects).marks, ["a", "a10", "a2", "b", "z"])
        self.assert_exactly(list(Graph("z", objects)), ["a", "a10", "a2", "b", "z"])

    def test_getting_an_object(self):
        graph = graph_of_all()
        self.assert_exactly(graph["d"], ("set", (3, "x", at("d"), at("e"))))
        self.assert_exactly([graph[mark] for mark in graph.marks], [graph.objects[mark] for mark in graph.marks])

    def test_getting_with_any_value(self):
        graph = graph_of_all()
        for value in BAD_MARKS + ["a", "z", "bb", ("b", "c"), ("at", "b"), slice(0, 1), slice("b", "c"), -1, b"b"]:
            self.assert_error(UnknownMark, "value", value, graph.__getitem__, value)
            with self.assertRaises(UnknownMark):
                graph[value]

    def test_containing(self):
        graph = graph_of_all()
        for mark in graph.marks:
            self.assertIs(mark in graph, True)
        for value in BAD_MARKS + ["a", "z", "bb", ("at", "b"), ("b",), b"b"]:
            self.assertIs(value in graph, False)

    def test_length(self):
        self.assert_exactly([len(graph_of_all()), len(chain_graph(1)), len(chain_graph(60))], [5, 1, 60])

    def test_iterating(self):
        graph = graph_of_all()
        self.assert_exactly([mark for mark in graph], graph.marks)
        self.assert_exactly([(one, other) for one in graph for other in graph][:6],
                            [("b", "b"), ("b", "c"), ("b", "d"), ("b", "e"), ("b", "f"), ("c", "b")])

    def test_properties_cannot_be_set(self):
        for name, value in (("root", "c"), ("marks", []), ("objects", {})):
            with self.assertRaises(AttributeError):
                setattr(graph_of_all(), name, value)


class TestEqual(Case):

    def test_equal_ones(self):
        objects = dict(list(things().items())[::-1])
        objects["b"] = ("record", "pair", (("left", at("d")), ("right", at("c"))))
        self.assertIs(graph_of_all() == Graph("b", objects), True)
        self.assertIs(graph_of_all() != Graph("b", objects), False)

    def test_other_ones(self):
        ring = {"a": ("list", (at("b"),)), "b": ("list", (at("a"),))}
        self.assert_other(Graph("a", ring), Graph("b", ring))
        self.assert_other(Graph("a", {"a": EMPTY}), Graph("b", {"b": EMPTY}))
        self.assert_other(Graph("a", {"a": ("list", (1,))}), Graph("a", {"a": ("list", (2,))}))
        self.assert_other(Graph("a", {"a": ("list", (1,))}), Graph("a", {"a": ("list", ("1",))}))
        self.assert_other(Graph("a", {"a": ("list", (at("b"),)), "b": EMPTY}), Graph("a", {"a": EMPTY}))
        self.assert_other(graph_of_all(), graph_of_all().renamed({"f": "g"}))

    def assert_other(self, one, other):
        self.assertIs(one == other, False)
        self.assertIs(one != other, True)

    def test_any_value(self):
        graph = Graph("a", {"a": EMPTY})
        for value in STRANGE + ["a", ["a"], {"a": EMPTY}, ("a", {"a": EMPTY}), EMPTY, 1]:
            self.assertIs(graph == value, False)
            self.assertIs(graph != value, True)

    def test_no_hash(self):
        self.assertRaises(TypeError, hash, graph_of_all())


class TestPaths(Case):

    def test_no_steps(self):
        self.assert_exactly(graph_of_all()(()), at("b"))
        self.assert_exactly(graph_of_all()(path=()), at("b"))

    def test_steps(self):
        graph = graph_of_all()
        for path, wanted in (
                (("left",), at("d")), (("right",), at("c")), (("right", 7), at("e")), (("right", "k"), 2),
                (("right", at("d")), at("b")), (("right", at("d"), "right", "k"), 2), (("right", 7, 1), 5),
                (("right", 7, 3), ""), (("right", 7, 0), at("f")), (("right", 7, 2), at("f"))):
            with self.subTest(path=path):
                self.assert_exactly(graph(path), wanted)

    def test_a_long_way(self):
        ring = Graph("a", {"a": ("list", (at("a"), 4))})
        self.assert_exactly(ring((0,) * 5000), at("a"))
        self.assert_exactly(ring((0,) * 5000 + (1,)), 4)
        self.assert_error(NoPlace, "index", 5000, ring, (0,) * 5000 + (2, 0))

    def test_no_such_step(self):
        graph = graph_of_all()
        for path, index in (
                (("middle",), 0), (("",), 0), (("pair",), 0), ((0,), 0), ((at("d"),), 0), (("right", "left"), 1),
                (("right", 2), 1), (("right", at("b")), 1), (("right", "7"), 1), (("right", "k", 0), 2),
                (("right", "k", "k"), 2), (("right", 7, 4), 2), (("right", 7, -1), 2), (("right", 7, "0"), 2),
                (("right", 7, HUGE), 2), (("right", 7, -HUGE), 2), (("right", 7, 1, 0, 0), 3), (("right", 7, 3, 0), 3),
                (("right", 7, 0, 0), 3), (("middle", "left", 7), 0), (("right", "a", "b", "c"), 1)):
            with self.subTest(path=path):
                self.assert_error(NoPlace, "index", index, graph, path)

    def test_a_set_has_no_steps(self):
        for step in (0, 3, "x", at("d"), at("e"), "member", ("member", 3)):
            self.assert_error(NoPlace, "index", 1, graph_of_all(), ("left", step))
            self.assert_error(NoPlace, "index", 0, Graph("a", {"a": ("set", (0, 3, "x"))}), (step,))

    def test_values_that_are_no_steps(self):
        ones = Graph("a", {"a": ("dict", ((0, at("b")), (1, at("b")))), "b": ("list", (5, 6))})
        for step in STRANGE + [0.0, 1.0, ["at", "a"], ("field", "left"), ("item", 0), ("key", 0), ("at", "zz")]:
            self.assert_error(NoPlace, "index", 0, ones, (step,))
            self.assert_error(NoPlace, "index", 0, ones, (step, 0))
            self.assert_error(NoPlace, "index", 1, ones, (0, step))
            self.assert_error(NoPlace, "index", 1, ones, (1, step, 0))
            self.assert_error(NoPlace, "index", 2, ones, (1, 1, step))
            self.assert_error(NoPlace, "index", 0, graph_of_all(), (step, "left"))

    def test_what_is_no_tuple(self):
        for path in NO_TUPLES + ["left", "", 0, ["left"], at]:
            self.assert_error(BadSteps, "value", path, graph_of_all(), path)


def told_by_words(graph, mark, told):
    """The marks of a walk, as the document words it, behind those that were told."""
    if mark not in told:
        told.append(mark)
        for target in sorted(graph.marks):
            if mark in graph.referrers(target):
                told_by_words(graph, target, told)
    return told


class TestWays(Case):

    def test_walk(self):
        objects = {"m": ("list", (at("z"), at("c"), at("k"))), "c": ("set", (at("x"), at("k"))), "k": ("list", (at("m"),)),
                   "x": ("list", (at("z"), at("b"))), "z": ("list", (at("a"),)), "b": EMPTY,
                   "a": ("dict", ((at("b"), at("c")),))}
        graph = Graph("m", objects)
        self.assert_exactly(list(graph.walk()), ["m", "c", "k", "x", "b", "z", "a"])
        self.assertEqual(told_by_words(graph, "m", []), ["m", "c", "k", "x", "b", "z", "a"])

    def test_walk_goes_deep_before_it_goes_on(self):
        objects = {"a": ("list", (at("b"), at("c"))), "b": ("list", (at("d"),)), "c": EMPTY, "d": ("list", (at("c"),))}
        self.assert_exactly(list(Graph("a", objects).walk()), ["a", "b", "d", "c"])

    def test_walk_through_many(self):
        graph = chain_graph(60)
        self.assert_exactly(list(graph.walk()), [f"a{index}" for index in range(60)])
        every = {f"a{row}": ("list", tuple([at(f"a{row * 2 + side}") for side in (2, 1) if row * 2 + side < 60]))
                 for row in range(60)}
        tree = Graph("a0", every)
        self.assertEqual(list(tree.walk()), told_by_words(tree, "a0", []))
        self.assertEqual(list(graph_of_all().walk()), told_by_words(graph_of_all(), "b", []))

    def test_walk_is_a_generator(self):
        walk = graph_of_all().walk()
        self.assertTrue(inspect.isgenerator(walk))
        self.assertEqual([next(walk), next(walk)], ["b", "c"])
        self.assertEqual(next(graph_of_all().walk()), "b")

    def test_referrers(self):
        graph = graph_of_all()
        told = [graph.referrers(mark) for mark in graph.marks]
        self.assert_exactly(told, [["c"], ["b"], ["b", "c", "d"], ["c", "d"], ["e"]])
        self.assert_exactly(chain_graph(2).referrers("a0"), [])
        self.assert_exactly(graph.referrers(mark="f"), ["e"])

    def test_part(self):
        graph = graph_of_all()
        objects = graph.objects
        self.assertEqual(graph.part("d"), Graph("d", {mark: objects[mark] for mark in ("d", "e", "f")}))
        self.assertEqual(graph.part("f"), Graph("f", {"f": EMPTY}))
        self.assertEqual(graph.part("c"), Graph("c", objects))
        self.assertEqual(graph.part(mark="b"), graph)

    def test_marks_of_referrers_and_part(self):
        graph = graph_of_all()
        for method in (graph.referrers, graph.part):
            for value in BAD_MARKS:
                self.assert_error(BadMark, "value", value, method, value)
            for value in ("a", "z", "bb", "b0"):
                self.assert_error(UnknownMark, "value", value, method, value)


class TestRenamed(Case):

    def test_some_marks(self):
        told = graph_of_all().renamed({"d": "x", "b": "y2"})
        self.assert_exactly((told.root, told.marks), ("y2", ["c", "e", "f", "x", "y2"]))
        self.assert_exactly(told.objects, {
            "c": ("dict", ((7, at("e")), ("k", 2), (at("x"), at("y2")))),
            "e": ("list", (at("f"), 5, at("f"), "")),
            "f": ("list", ()),
            "x": ("set", (3, "x", at("e"), at("x"))),
            "y2": ("record", "pair", (("left", at("x")), ("right", at("c")))),
        })

    def test_members_and_keys_are_put_in_order_anew(self):
        graph = Graph("a", {"a": ("set", (at("a"), at("b"))), "b": ("dict", ((at("a"), 1), (at("b"), 2)))})
        told = graph.renamed({"a": "z"})
        self.assert_exactly(told["z"], ("set", (at("b"), at("z"))))
        self.assert_exactly(told["b"], ("dict", ((at("b"), 2), (at("z"), 1))))

    def test_no_marks_and_all_marks(self):
        graph = graph_of_all()
        self.assertEqual(graph.renamed({}), graph)
        self.assertEqual(graph.renamed({mark: mark for mark in graph.marks}), graph)
        there = {"b": "c", "c": "d", "d": "e", "e": "f", "f": "b"}
        back = {image: mark for mark, image in there.items()}
        told = graph.renamed(marks=there)
        self.assertEqual(told.root, "c")
        self.assertNotEqual(told, graph)
        self.assertEqual(told.renamed(back), graph)

    def test_exchanged_marks(self):
        graph = Graph("a", {"a": ("list", (at("b"),)), "b": ("list", (at("a"), 1))})
        told = Graph("b", {"b": ("list", (at("a"),)), "a": ("list", (at("b"), 1))})
        self.assertEqual(graph.renamed({"a": "b", "b": "a"}), told)

    def test_two_objects_with_one_mark(self):
        for marks in ({"b": "c"}, {"b": "x", "c": "x"}, {"b": "c", "c": "d"}, {"b": "c", "c": "c"},
                      {"b": "c", "c": "b", "d": "e"}):
            self.assert_error(BadMap, "value", marks, graph_of_all().renamed, marks)

    def test_no_dict_from_some_marks_to_marks(self):
        graph = graph_of_all()
        for value in NO_DICTS + [[("b", "x")], (("b", "x"),), "b", 0]:
            self.assert_error(BadMap, "value", value, graph.renamed, value)
        for key in ("a", "z", "", "B", 1, True, None, ("at", "b"), b"b"):
            for marks in ({key: "x"}, {"b": "y", key: "x"}):
                self.assert_error(BadMap, "value", marks, graph.renamed, marks)
        for image in BAD_MARKS:
            for marks in ({"b": image}, {"c": "x", "b": image}):
                self.assert_error(BadMap, "value", marks, graph.renamed, marks)
