"""Views (14): what they tell, and what they load."""

from samebytes.errors import BadArgument, BadSteps, NoPlace, UnknownMark, UnknownName
from samebytes.graphs import Graph
from samebytes.pieces import pieces
from samebytes.stores import Store
from samebytes.views import View
from tests import oracle
from tests.helpers import NO_TUPLES, STRANGE, Case, at, rings
from tests.test_arguments import containers, scribble
from tests.test_stores import ALIKE, NO_NAMES, SHARED, stored, told

# a and b are one piece, c and d another one, and so are e, f and g each.
GRAPH = Graph("a", {"a": ("record", "top", (("go", at("b")), ("on", at("c")), ("x", 5))), "b": ("list", (at("a"), at("e"), "t")),
                    "c": ("dict", ((1, at("d")), ("1", at("e")), (at("d"), at("f")), ("", 7))), "d": ("list", (at("c"), at("g"))),
                    "e": ("set", (1, 2)), "f": ("record", "end", (("g", at("g")), ("n", -3))), "g": ("list", ())})
AB, CD, E, F, G = ["a", "b"], ["c", "d"], ["e"], ["f"], ["g"]


def view_of(graph):
    return View(stored(one=graph), "one")


def steps_of(thing):
    """All steps that lead on from an object, and some that do not."""
    if thing[0] == "list":
        return list(range(len(thing[1]))) + [len(thing[1]), -1, True, "x", at("a")]
    if thing[0] == "set":
        return [0, 1, *thing[1]]
    return [part[0] for part in thing[-1]] + ["none", 0, 1, True, None, at("z")]


class TestViews(Case):

    def test_what_it_tells(self):
        view = view_of(GRAPH)
        self.assert_exactly((view.root, view.loaded), ("a", []))
        self.assert_exactly(view.thing("e"), ("set", (1, 2)))
        self.assert_exactly(view.loaded, [E])
        self.assert_exactly([view.thing(mark) for mark in GRAPH], [GRAPH[mark] for mark in GRAPH])
        self.assert_exactly(view.loaded, [E, AB, CD, F, G])

    def test_each_piece_is_loaded_once(self):
        view = view_of(GRAPH)
        for mark in "bbagdgcbaa":
            view.thing(mark)
        self.assert_exactly(view.loaded, [AB, G, CD])

    def test_the_root_loads_nothing(self):
        view = view_of(GRAPH.part("c"))
        self.assert_exactly((view.root, view.loaded, view.root, view.loaded), ("c", [], "c", []))

    def test_paths(self):
        for path, worth, loaded in ((), at("a"), []), (("x",), 5, [AB]), (("go",), at("b"), [AB]), (("on",), at("c"), [AB]), \
                (("go", 0, "go", 2), "t", [AB]), (("on", 1), at("d"), [AB, CD]), (("on", "1"), at("e"), [AB, CD]), (("on", ""), 7, [AB, CD]), \
                (("on", 1, 0, 1, 1), at("g"), [AB, CD]), (("on", at("d"), "n"), -3, [AB, CD, F]), (("on", at("d"), "g"), at("g"), [AB, CD, F]):
            view = view_of(GRAPH)
            self.assert_exactly((view(path), view.loaded), (worth, loaded))
            self.assert_exactly((view(path), view.loaded, GRAPH(path)), (worth, loaded, worth))

    def test_refused_paths(self):
        for path, index, loaded in (("y",), 0, [AB]), (("x", 1), 1, [AB]), (("x", 1, 1), 1, [AB]), (("go", 1, 1), 2, [AB, E]), (("on", 2), 1, [AB, CD]), \
                (("on", True), 1, [AB, CD]), ((None,), 0, [AB]), (("on", 1, 1, 0), 3, [AB, CD, G]), (("on", at("d"), "z", 5), 2, [AB, CD, F]), (([],), 0, [AB]):
            view = view_of(GRAPH)
            self.assert_error(NoPlace, "index", index, view, path)
            self.assert_exactly(view.loaded, loaded)

    def test_one_view_goes_on(self):
        view = view_of(GRAPH)
        self.assert_exactly((view(("on", 1)), view(("go", 1)), view.thing("g"), view(("on", "1")), view.loaded),
                            (at("d"), at("e"), ("list", ()), at("e"), [AB, CD, G]))
        self.assert_error(NoPlace, "index", 2, view, ("go", 1, 0))
        self.assert_exactly(view.loaded, [AB, CD, G, E])

    def test_against_the_whole_graph(self):
        chance = oracle.chances(1)
        for _ in range(150):
            graph = oracle.random_graph(chance, chance.randrange(1, 12))
            piece_of = {mark: piece for piece in pieces(graph) for mark in piece}
            view = view_of(graph)
            loaded = []

            def load(mark):
                if piece_of[mark] not in loaded:
                    loaded.append(piece_of[mark])
            for _ in range(6):
                mark = chance.choice(graph.marks)
                if chance.random() < 0.4:
                    load(mark)
                    self.assert_exactly((view.thing(mark), view.loaded), (graph[mark], loaded))
                    continue
                path, worth = [], at(graph.root)
                while isinstance(worth, tuple) and chance.random() < 0.85:
                    load(worth[1])
                    path.append(chance.choice(steps_of(graph[worth[1]])))
                    try:
                        worth = graph(tuple(path))
                    except NoPlace:
                        worth = None
                if worth is None:
                    self.assert_error(NoPlace, "index", len(path) - 1, view, tuple(path))
                else:
                    self.assert_exactly(view(tuple(path)), worth)
                self.assert_exactly((view.loaded, view.root), (loaded, graph.root))

    def test_great_rings(self):
        graph = rings([10, 10, 9])
        view = view_of(graph)
        self.assertEqual(view.thing("b7"), graph["b7"])
        self.assertEqual([len(piece) for piece in view.loaded], [10])


class TestWhatItIsAViewOf(Case):

    def test_the_graph_that_was_kept_when_it_was_made(self):
        store = stored(one=GRAPH)
        view, late = View(store, "one"), View(store, "one")
        view.thing("c")
        store.drop("one")
        self.assertEqual([late.thing(mark) for mark in GRAPH], [GRAPH[mark] for mark in GRAPH])
        store.put("one", SHARED)
        other = View(store, "one")
        self.assert_exactly((view(("on", "1")), view.thing("a"), view.thing("b"), view.loaded), (at("e"), GRAPH["a"], GRAPH["b"], [CD, AB]))
        self.assert_exactly((other.thing("a"), other.loaded), (SHARED["a"], [["a"]]))
        self.assertEqual(store.get("one"), SHARED)

    def test_views_are_apart(self):
        store = stored(one=GRAPH)
        before = told(store)
        one, other = View(store, "one"), View(store, "one")
        one.thing("a")
        self.assert_exactly((one.loaded, other.loaded), ([AB], []))
        self.assertIs(one == other, False)
        self.assertIs(one == GRAPH, False)
        self.assertEqual(told(store), before)


class TestWrongCalls(Case):

    def test_making(self):
        store = stored(a=SHARED, two=ALIKE)
        before = told(store)
        for value in [*STRANGE, "a", GRAPH, Store, view_of(GRAPH)]:
            self.assert_error(BadArgument, "value", value, View, value, "a")
            self.assert_error(BadArgument, "value", value, View, value, None)
        for value in NO_NAMES + ["b", "tw", "three"]:
            self.assert_error(UnknownName, "name", value, View, store, value)
        self.assertEqual(told(store), before)

    def test_unknown_marks_load_nothing(self):
        view = view_of(GRAPH)
        for value in [*STRANGE, "z", "x0", "p0", "root", "", "aa", 0, 1, ("a",), ["a"], at("a"), at("z"), GRAPH, "abcdefghi"]:
            self.assert_error(UnknownMark, "value", value, view.thing, value)
        self.assertEqual(view.loaded, [])

    def test_wrong_steps(self):
        view = view_of(GRAPH)
        for value in NO_TUPLES + ["a", "go", 0, ["go"], GRAPH]:
            self.assert_error(BadSteps, "value", value, view, value)
        self.assertEqual(view.loaded, [])

    def test_it_is_not_iterated_over(self):
        view = view_of(GRAPH)
        for call in (iter, list, tuple, sorted, lambda told: [mark for mark in told], lambda told: "a" in told, lambda told: dict.fromkeys(told)):
            self.assertRaises(TypeError, call, view)
        self.assertEqual(view.loaded, [])


class TestConventions(Case):

    def test_names_of_arguments(self):
        view = View(name="one", store=stored(one=GRAPH))
        self.assert_exactly((view.thing(mark="g"), view(path=("x",)), view.loaded), (("list", ()), 5, [G, AB]))

    def test_what_was_returned_may_change(self):
        view = view_of(GRAPH)
        view.thing("a")
        view.thing("d")
        scribble(view.loaded)
        self.assert_exactly(view.loaded, [AB, CD])
        lists = containers([view.loaded, view.loaded])
        self.assertEqual(len({id(value) for value in lists}), len(lists))
        self.assert_exactly([view.thing(mark) for mark in GRAPH], [GRAPH[mark] for mark in GRAPH])
