"""The one text (11): equal for two graphs exactly if they are the same."""

import itertools

from samebytes.forms import numbering, one_text
from samebytes.graphs import Graph
from samebytes.papers import is_same
from samebytes.texts import read, write
from tests import oracle
from tests.helpers import Case, at, chain_graph, rings, twins
from tests.test_papers import of_neighbours, rook, shapes, shrikhande


def great_graphs():
    """Graphs with very many symmetries, up to sixty objects."""
    many = range(29)
    pairs = {f"b{index}": ("list", (at(f"c{index}"),)) for index in many}
    ends = {f"c{index}": ("set", ()) for index in many}
    all_ends = ("set", tuple(at(mark) for mark in ends))
    yield twins(30)
    yield twins(30, ("record", "pair", (("left", 1), ("right", "x"))))
    yield Graph("r", {"r": ("set", tuple(at(mark) for mark in pairs)), **pairs, **ends})
    yield Graph("r", {"r": ("set", tuple(at(mark) for mark in pairs)), **dict.fromkeys(pairs, all_ends), **ends})
    yield Graph("r", {"r": ("set", (at("s"), *map(at, pairs))), "s": all_ends, **dict.fromkeys(pairs, ("list", ())), **ends})
    yield Graph("r", {"r": ("dict", tuple((at(mark), at("c" + mark[1:])) for mark in pairs)), **dict.fromkeys(pairs, ("list", ())), **ends})
    yield Graph("r", {"r": ("dict", tuple((at(mark), 1) for mark in pairs)), **pairs, **ends})
    yield of_neighbours({f"k{index}": [f"k{other}" for other in range(30) if other != index] for index in range(30)})
    yield of_neighbours({f"k{index}": [f"k{other}" for other in range(30) if other // 15 != index // 15] for index in range(30)})
    for sizes in ([3] * 10, [5] * 6, [1] * 12, [2] * 12, [6, 3, 3, 6, 3, 3, 6], [30], [4, 4, 4, 5, 5, 3, 3]):
        yield rings(sizes)
        if max(sizes) > 2:
            yield rings(sizes, False)
        yield rings(sizes, False, "dict")


def tree(depth):
    """A tree of sets, each with two alike ones in it."""
    marks = ["".join(told) for length in range(depth) for told in itertools.product("ab", repeat=length)]
    return Graph("t", {f"t{mark}": ("set", (at(f"t{mark}a"), at(f"t{mark}b")) if len(mark) < depth - 1 else ()) for mark in marks})


def twelve_objects():
    """Graphs of which no two are the same, though they are very much alike."""
    shared = ("list", (at("b"), at("b")))
    two = ("list", (at("b"), at("c")))
    empty = {"b": ("list", ()), "c": ("list", ())}
    yield Graph("a", {"a": shared, "b": ("list", ())})
    yield Graph("a", {"a": two, **empty})
    yield Graph("a", {"a": ("set", (at("b"), at("c"))), **empty})
    yield Graph("a", {"a": ("set", (at("b"),)), "b": ("list", ())})
    yield Graph("a", {"a": ("dict", ((at("b"), at("c")),)), **empty})
    yield Graph("a", {"a": ("dict", ((at("b"), at("b")),)), "b": ("list", ())})
    yield Graph("a", {"a": ("dict", ((at("b"), 1), (at("c"), 1))), **empty})
    yield Graph("a", {"a": ("dict", ((1, at("b")), (2, at("b")))), "b": ("list", ())})
    yield Graph("a", {"a": ("dict", ((1, at("b")), (2, at("c")))), **empty})
    yield Graph("a", {"a": ("dict", ((at("b"), at("c")), (at("c"), at("b")))), **empty})
    yield Graph("a", {"a": ("dict", ((at("b"), at("b")), (at("c"), at("c")))), **empty})
    yield Graph("a", {"a": ("set", (at("b"), at("c"))), "b": ("set", (at("b"),)), "c": ("set", (at("c"),))})
    yield Graph("a", {"a": ("set", (at("b"), at("c"))), "b": ("set", (at("c"),)), "c": ("set", (at("b"),))})
    yield Graph("a", {"a": ("set", (at("b"), at("c"))), "b": ("set", (at("a"),)), "c": ("set", (at("a"),))})
    yield Graph("a", {"a": ("set", (at("b"), at("c"))), "b": ("set", (at("b"), at("c"))), "c": ("set", (at("c"), at("b")))})
    yield Graph("a", {"a": ("set", (1, "1"))})
    yield Graph("a", {"a": ("list", (1, "1"))})
    yield Graph("a", {"a": ("list", ("1", 1))})
    yield Graph("a", {"a": ("record", "pair", (("left", 1), ("right", "1")))})
    yield Graph("a", {"a": ("record", "pair", (("left", "1"), ("right", 1)))})
    yield Graph("a", {"a": ("record", "pairs", (("left", "1"), ("right", 1)))})
    yield Graph("a", {"a": ("record", "pair", (("left", at("b")), ("right", at("c")))), **empty})
    yield Graph("a", {"a": ("record", "pair", (("left", at("b")), ("right", at("b")))), "b": ("list", ())})
    yield Graph("a", {"a": ("list", (at("a"), at("b"))), "b": ("list", (at("b"), at("a")))})
    yield Graph("a", {"a": ("list", (at("b"), at("a"))), "b": ("list", (at("b"), at("a")))})
    yield Graph("a", {"a": ("list", (at("b"), at("a"))), "b": ("list", (at("a"), at("b")))})


class TestOneText(Case):

    def assert_form(self, graph):
        """Assert that the one text is a text of the same graph with the marks that numbering tells; return it."""
        text = one_text(graph)
        marks = numbering(graph)
        self.assert_exactly(write(graph.renamed(marks)), text)
        self.assertEqual(sorted(marks), graph.marks)
        self.assertEqual(sorted(marks.values()), sorted(f"x{index}" for index in range(len(graph))))
        self.assertEqual(marks[graph.root], "x0")
        self.assertTrue(text.startswith("root x0\nx0 = "))
        self.assertEqual(read(text), graph.renamed(marks))
        self.assertEqual(one_text(read(text)), text)
        return text

    def test_small_ones(self):
        self.assert_exactly(one_text(Graph("z", {"z": ("list", ())})), "root x0\nx0 = list []")
        self.assert_exactly(numbering(Graph("z", {"z": ("list", ())})), {"z": "x0"})
        ring = Graph("z", {"z": ("list", (at("y"),)), "y": ("list", (at("z"), 5))})
        self.assert_exactly(self.assert_form(ring), "root x0\nx0 = list [@x1]\nx1 = list [@x0, 5]")
        self.assert_exactly(one_text(Graph("x1", {"x1": ("set", (at("x0"),)), "x0": ("set", ())})), "root x0\nx0 = set {@x1}\nx1 = set {}")

    def test_each_graph_has_its_own(self):
        texts = [self.assert_form(graph) for graph in twelve_objects()]
        self.assertEqual(len(set(texts)), len(texts))
        unlike = [self.assert_form(graph) for pair in shapes() for graph in pair]
        self.assertEqual(len(set(unlike)), 16)

    def test_rings(self):
        graphs = [rings(sizes, both, kind) for sizes in ([6], [3, 3], [4, 2], [5, 1], [2, 2, 2], [2, 4, 1], [1] * 6)
                  for both in (True, False) for kind in ("set", "dict")]
        for one, other in itertools.combinations(graphs, 2):
            self.assertEqual(one_text(one) == one_text(other), is_same(one, other))

    def test_other_marks_and_orders_change_nothing(self):
        chance = oracle.chances(1)
        for graph in [*twelve_objects(), chain_graph(60), tree(5), of_neighbours(rook()), of_neighbours(shrikhande()), *(one for pair in shapes() for one in pair)]:
            text = self.assert_form(graph)
            for _ in range(3):
                self.assertEqual(self.assert_form(oracle.shuffled(chance, graph)), text)

    def test_random_graphs(self):
        chance = oracle.chances(2)
        for _ in range(150):
            kinds = chance.choice((("record", "list", "set", "dict"), ("set",), ("dict",), ("list", "set"), ("set", "dict")))
            graph = oracle.random_graph(chance, chance.randrange(1, 25), kinds)
            self.assertEqual(self.assert_form(graph), one_text(oracle.shuffled(chance, graph)))

    def test_against_all_maps(self):
        chance = oracle.chances(3)
        same = 0
        for _ in range(400):
            kinds = chance.choice((("set",), ("dict",), ("list", "set"), ("set", "dict")))
            one, other = (oracle.random_graph(chance, chance.randrange(2, 5), kinds) for _ in range(2))
            wanted = bool(oracle.all_maps(one, other))
            self.assertEqual(one_text(one) == one_text(other), wanted)
            same += wanted
        self.assertGreater(same, 15)

    def test_every_way_round_of_small_graphs(self):
        # All graphs of three sets that refer to one another, each with all that are the same.
        marks = ("a", "b", "c")
        parts = [told for length in range(4) for told in itertools.combinations(marks, length)]
        texts = {}
        for sets in itertools.product(parts, repeat=3):
            things = {mark: ("set", tuple(map(at, told))) for mark, told in zip(marks, sets)}
            graph = Graph("a", {"a": ("set", ())}) + ("a", things)
            texts.setdefault(one_text(graph), []).append(graph)
        for members in texts.values():
            self.assertTrue(all(is_same(members[0], graph) for graph in members))
        firsts = [members[0] for members in texts.values()]
        for one, other in itertools.combinations(firsts, 2):
            if len(one) == len(other):
                self.assertEqual(oracle.all_maps(one, other), [])

    def test_very_many_symmetries(self):
        chance = oracle.chances(4)
        texts = []
        for graph in great_graphs():
            texts.append(self.assert_form(graph))
            self.assertEqual(one_text(oracle.shuffled(chance, graph)), texts[-1])
        self.assertEqual(len(set(texts)), len(texts))

    def test_hard_graphs_with_alike_ones_beside_them(self):
        chance = oracle.chances(5)
        texts = []
        for near in (rook(), shrikhande()):
            hard = of_neighbours(near).objects
            lists = {f"z{index}": ("list", ()) for index in range(28)}
            graph = Graph("top", {"top": ("list", (at("root"), at("more"))), "more": ("set", tuple(map(at, lists))), **hard, **lists})
            texts.append(self.assert_form(graph))
            self.assertEqual(one_text(oracle.shuffled(chance, graph)), texts[-1])
        self.assertNotEqual(*texts)
