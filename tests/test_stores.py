"""Stores and occurrences (14), and the shapes that they keep (13)."""

from samebytes.errors import BadArgument, BadName, NameTaken, UnknownName
from samebytes.graphs import Graph
from samebytes.pieces import alike_pieces, pieces, ports, shape
from samebytes.stores import Store
from samebytes.texts import read
from tests import oracle
from tests.helpers import STRANGE, Case, at, chain_graph, rings, twins
from tests.test_arguments import containers, scribble

SHARED = Graph("a", {"a": ("record", "pair", (("left", at("b")), ("right", at("b")))), "b": ("list", ())})
ALIKE = Graph("a", {"a": ("record", "pair", (("left", at("b")), ("right", at("c")))), "b": ("list", ()), "c": ("list", ())})
NO_NAMES = [value for value in STRANGE if value != "a"] + ["", "a1", "abcdefghi", "aB", 1, 0, ("a",), ["a"], SHARED, Graph]


def told(store):
    """All that a store tells."""
    return repr([len(store), store.names, store.shapes, [store.occurrences(name) for name in store.names],
                 [(store.get(name).root, store.get(name).objects) for name in store.names], [store.users(shape) for shape in store.shapes]])


def stored(**graphs):
    store = Store()
    for name, graph in graphs.items():
        store.put(name, graph)
    return store


def read_off(occurrences, graph):
    """The objects that occurrences tell, each through a piece of a graph that has its shape."""
    things = {}
    for text, marks, links in occurrences:
        outside = [occurrences[number][1][place] for number, place in links]
        piece = [told for told in pieces(graph) if sorted(marks) == told][0]
        assert shape(graph, piece) == text
        # Read as lines of a text, in which the ports are objects that lie outside.
        names = {**{f"x{place}": mark for place, mark in enumerate(marks)}, **{f"p{place}": mark for place, mark in enumerate(outside)}}
        for line in text.split("\n"):
            name, _, rest = line.partition(" = ")
            for word in sorted(names, key=len, reverse=True):
                rest = rest.replace(f"@{word}", f"@ {names[word]}")
            things[names[name]] = rest
    return things


class TestStores(Case):

    def test_what_was_put_comes_back(self):
        store = Store()
        self.assertEqual((len(store), store.names, store.shapes), (0, [], []))
        self.assertIsNone(store.put("one", SHARED))
        self.assertIsNone(store.put("two", ALIKE))
        self.assertIs(store.get("one") == SHARED and store.get("two") == ALIKE, True)
        self.assert_exactly((store.get("one").root, store.get("one").objects), ("a", SHARED.objects))
        self.assertIsNot(store.get("one") == ALIKE, True)
        self.assert_exactly((len(store), store.names), (2, ["one", "two"]))
        self.assertEqual(store.drop("one"), SHARED)
        self.assert_exactly((len(store), store.names, "one" in store, "two" in store), (1, ["two"], False, True))
        self.assertEqual(store.get("two"), ALIKE)
        store.put("one", ALIKE)
        self.assertEqual(store.get("one"), ALIKE)

    def test_whatever_else_is_put_and_dropped(self):
        chance = oracle.chances(1)
        store, kept, shapes = Store(), {}, {}
        names = ["a", "b", "pair", "abcdefgh", "zz", "q", "r", "s"]
        for _ in range(100):
            name = chance.choice(names)
            if name in kept:
                self.assertEqual(store.drop(name), kept.pop(name))
            else:
                graph = oracle.random_graph(chance, chance.randrange(1, 12))
                if kept and chance.random() < 0.4:
                    graph = oracle.shuffled(chance, kept[chance.choice(sorted(kept))])
                store.put(name, graph)
                kept[name] = graph
                shapes[name] = {shape(graph, piece) for piece in pieces(graph)}
            self.assert_exactly((len(store), store.names), (len(kept), sorted(kept)))
            shapes = {name: shapes[name] for name in kept}
            self.assert_exactly(store.shapes, sorted(set().union(*shapes.values())))
            for text in store.shapes:
                self.assert_exactly(store.users(text), sorted(name for name in kept if text in shapes[name]))
            for name in kept:
                self.assertEqual(store.get(name), kept[name])
                self.assert_exactly(sorted({text for text, _, _ in store.occurrences(name)}), sorted(shapes[name]))

    def test_shapes_go_with_the_last_graph(self):
        store = stored(one=SHARED, two=ALIKE, three=ALIKE.renamed({"a": "z", "b": "a"}), four=Graph("x", {"x": ("list", ())}))
        empty, shared, alike = shape(SHARED, ["b"]), shape(SHARED, ["a"]), shape(ALIKE, ["a"])
        self.assertEqual(store.shapes, sorted([empty, shared, alike]))
        self.assert_exactly(store.users(empty), ["four", "one", "three", "two"])
        self.assert_exactly((store.users(shared), store.users(alike)), (["one"], ["three", "two"]))
        store.drop("one")
        self.assert_exactly((store.shapes, store.users(shared)), (sorted([empty, alike]), []))
        store.drop("two")
        self.assert_exactly((store.shapes, store.users(alike)), (sorted([empty, alike]), ["three"]))
        store.drop("three")
        self.assert_exactly((store.shapes, store.users(empty)), ([empty], ["four"]))
        store.drop("four")
        self.assert_exactly((store.shapes, store.names, len(store)), ([], [], 0))
        store.put("four", SHARED)
        self.assert_exactly(store.shapes, sorted([empty, shared]))

    def test_one_graph_with_several_alike_pieces(self):
        store = stored(one=twins(30), two=twins(29))
        self.assertEqual(len(store.shapes), 3)
        self.assertEqual((len(store.occurrences("one")), len(store.occurrences("two"))), (31, 30))
        self.assertEqual(len({text for text, _, _ in store.occurrences("one")[:30]}), 1)
        self.assertEqual(store.get("one"), twins(30))
        self.assert_exactly(store.users(store.occurrences("one")[0][0]), ["one", "two"])
        store.drop("one")
        self.assertEqual((len(store.shapes), store.get("two")), (2, twins(29)))

    def test_in(self):
        store = stored(a=SHARED, pair=ALIKE)
        for value in ("a", "pair"):
            self.assertIs(value in store, True)
        for value in NO_NAMES + ["b", "pai", "pairs", "at"]:
            self.assertIs(value in store, False)

    def test_shared_and_alike_ones_are_never_mixed_up(self):
        store = stored(one=SHARED, two=ALIKE)
        self.assert_exactly([len(store.occurrences(name)) for name in store.names], [2, 3])
        self.assertNotEqual(store.occurrences("one")[-1][0], store.occurrences("two")[-1][0])
        self.assert_exactly(store.occurrences("one")[-1][1:], (["a"], [(0, 0)]))
        self.assert_exactly(sorted(store.occurrences("two")[-1][2]), [(0, 0), (1, 0)])
        sets = [Graph("a", {"a": ("set", (at("b"), at("c"))), "b": ("list", (at("d"),)), "c": ("list", (at("e"),)), "d": ("set", ()), "e": ("set", ())}),
                Graph("a", {"a": ("set", (at("b"), at("c"))), "b": ("list", (at("d"),)), "c": ("list", (at("d"),)), "d": ("set", ())})]
        store = stored(tree=sets[0], shared=sets[1])
        self.assertEqual(len(store.shapes), 3)
        self.assertEqual([store.get("tree"), store.get("shared")], sets)
        self.assertEqual([len(store.occurrences(name)) for name in ("tree", "shared")], [5, 4])


class TestOccurrences(Case):

    def assert_occurrences(self, graph):
        occurrences = stored(one=graph).occurrences("one")
        self.assertEqual([sorted(marks) for _, marks, _ in occurrences], pieces(graph))
        for number, (text, marks, links) in enumerate(occurrences):
            self.assertEqual((text.__class__, marks.__class__, links.__class__), (str, list, list))
            self.assertEqual(text, shape(graph, marks))
            self.assertTrue(all(link.__class__ is tuple and len(link) == 2 and 0 <= link[0] < number for link in links))
            self.assertEqual(sorted(occurrences[link][1][place] for link, place in links), ports(graph, marks))
        return occurrences

    def assert_same_order(self, one, other):
        """Assert that marks and ports of alike pieces come in an order in which the pieces are alike."""
        first, second = self.assert_occurrences(one), self.assert_occurrences(other)
        alike = 0
        for text, marks, links in first:
            for further, images, behind in second:
                if text == further:
                    alike += 1
                    taken = dict(zip(marks, images))
                    taken.update(zip([first[number][1][place] for number, place in links], [second[number][1][place] for number, place in behind]))
                    self.assertTrue(oracle.is_showing(one, sorted(marks), other, sorted(images), taken))
                elif len(one) < 10:
                    self.assertIsNone(alike_pieces(one, marks, other, images))
        return alike

    def test_small_ones(self):
        occurrences = self.assert_occurrences(ALIKE)
        self.assert_exactly([marks for _, marks, _ in occurrences], [["b"], ["c"], ["a"]])
        self.assert_exactly([links for _, _, links in occurrences][:2], [[], []])
        self.assert_exactly([links for _, _, links in self.assert_occurrences(SHARED)], [[], [(0, 0)]])
        self.assert_exactly([told[1:] for told in self.assert_occurrences(chain_graph(3))], [(["a2"], []), (["a1"], [(0, 0)]), (["a0"], [(1, 0)])])

    def test_against_the_words_of_the_document(self):
        chance = oracle.chances(2)
        alike = 0
        for _ in range(60):
            one = oracle.random_graph(chance, chance.randrange(1, 9))
            alike += self.assert_same_order(one, oracle.shuffled(chance, one))
            alike += self.assert_same_order(one, oracle.random_graph(chance, chance.randrange(1, 9)))
        self.assertGreater(alike, 100)

    def test_many_ports_of_unlike_kinds(self):
        ends = {f"e{index}": [("list", (index,)), ("set", ()), ("list", (at("z"),)), ("list", (at("e0"), at("z")))][index % 4] for index in range(28)}
        marks = list(ends)
        pair = {"a": ("dict", tuple((at(mark), at(other)) for mark, other in zip(marks, marks[1:] + marks[:1])) + ((1, at("b")),)),
                "b": ("set", (at("a"), at("z"), *map(at, marks[::2])))}
        graph = Graph("b", {**pair, **ends, "z": ("record", "end", ())})
        chance = oracle.chances(3)
        self.assertGreater(self.assert_same_order(graph, oracle.shuffled(chance, graph)), 30)
        self.assertEqual(len(self.assert_occurrences(graph)[-1][2]), 29)
        self.assertEqual(stored(one=graph).get("one"), graph)

    def test_great_pieces(self):
        size = 30
        marks = [f"a{index}" for index in range(size)]
        ends = [f"b{index}" for index in range(size)]
        chance = oracle.chances(4)
        for rule in (lambda index: [index], lambda index: [index, index + 1], lambda index: [index // 3], lambda index: [0, index * 7]):
            things = {mark: ("set", (at(marks[(index + 1) % size]), *dict.fromkeys(at(ends[end % size]) for end in rule(index))))
                      for index, mark in enumerate(marks)}
            used = {worth[1] for thing in things.values() for worth in thing[1]}
            graph = Graph("a0", {**things, **{end: ("list", ()) for end in ends if end in used}})
            other = oracle.shuffled(chance, graph)
            self.assertGreater(self.assert_same_order(graph, other), 1)
            store = stored(one=graph, two=other)
            self.assertEqual(len(store.shapes), 2)
            self.assertEqual([store.get("one"), store.get("two")], [graph, other])
        graph = rings([10, 10, 9], True, "dict")
        self.assertEqual(stored(one=graph).get("one"), graph)

    def test_the_graph_can_be_read_off(self):
        chance = oracle.chances(5)
        for _ in range(40):
            graph = oracle.random_graph(chance, chance.randrange(1, 14))
            store = stored(one=graph)
            lines = [f"{mark} = {rest}" for mark, rest in read_off(store.occurrences("one"), graph).items()]
            self.assertEqual(read("\n".join(lines + [f"root {graph.root}"])), graph)

    def test_no_shape_tells_of_marks_or_of_what_lies_outside(self):
        one = Graph("a", {"a": ("set", (at("b"), at("c"))), "b": ("list", (1,)), "c": ("list", (2,))})
        other = Graph("q", {"q": ("set", (at("r"), at("s"))), "r": ("list", (at("s"),)), "s": ("dict", ())})
        store = stored(one=one, two=other)
        self.assertEqual(store.occurrences("one")[-1][0], store.occurrences("two")[-1][0])
        self.assertEqual(len(store.shapes), 5)


class TestWrongCalls(Case):

    def setUp(self):
        self.store = stored(a=SHARED, two=ALIKE)
        self.told = told(self.store)

    def tearDown(self):
        self.assertEqual(told(self.store), self.told)

    def test_put(self):
        for value in NO_NAMES:
            self.assert_error(BadName, "value", value, self.store.put, value, SHARED)
            self.assert_error(BadName, "value", value, self.store.put, value, None)
        for value in [*STRANGE, "a", SHARED.objects, Graph]:
            for name in ("a", "b"):
                self.assert_error(BadArgument, "value", value, self.store.put, name, value)
        self.assert_error(NameTaken, "name", "two", self.store.put, "two", SHARED)
        self.assert_error(NameTaken, "name", "a", self.store.put, "a", SHARED)

    def test_unknown_names(self):
        for value in NO_NAMES + ["b", "on", "twoo", "three"]:
            for call in (self.store.get, self.store.drop, self.store.occurrences):
                self.assert_error(UnknownName, "name", value, call, value)
        store = stored(a=SHARED)
        store.drop("a")
        self.assert_error(UnknownName, "name", "a", store.get, "a")
        self.assert_error(UnknownName, "name", "a", store.drop, "a")

    def test_users_of_any_value(self):
        for value in [*STRANGE, "", "a", "x0 = list", shape(SHARED, ["a"]) + " ", shape(SHARED, ["a"])[1:], (shape(SHARED, ["a"]),), [self.store.shapes[0]]]:
            self.assert_exactly(self.store.users(value), [])


class TestConventions(Case):

    def test_names_of_arguments(self):
        store = Store()
        store.put(graph=SHARED, name="one")
        self.assertEqual(store.get(name="one"), SHARED)
        self.assertEqual(len(store.occurrences(name="one")), 2)
        self.assert_exactly(store.users(shape=store.shapes[0]), ["one"])
        self.assertEqual(store.drop(name="one"), SHARED)

    def test_what_was_returned_may_change(self):
        store = stored(one=SHARED, two=ALIKE)
        before = told(store)
        for call in (lambda: store.names, lambda: store.shapes, lambda: store.occurrences("two"), lambda: store.users(store.shapes[0])):
            scribble(call())
            self.assertEqual(told(store), before)
        lists = containers([store.occurrences("one"), store.occurrences("one"), store.occurrences("two"), store.names, store.names, store.shapes])
        self.assertEqual(len({id(value) for value in lists}), len(lists))

    def test_what_was_given_may_change_later(self):
        given = SHARED.objects
        store = stored(one=Graph("a", given))
        before = told(store)
        given.clear()
        self.assertEqual(told(store), before)

    def test_stores_are_apart(self):
        one, other = stored(a=SHARED), stored(a=SHARED)
        self.assertIs(one == other, False)
        for value in STRANGE[:20] + [SHARED, Store, "a"]:
            if value.__class__.__name__ != "Odd":
                self.assertIs(one == value, False)
        one.drop("a")
        self.assertEqual((len(one), len(other), other.names), (0, 1, ["a"]))

    def test_equal_results(self):
        one, other = stored(a=SHARED, b=ALIKE), stored(b=ALIKE, a=SHARED)
        self.assertEqual(told(one), told(other))
