"""Pieces, ports, alike pieces and their shapes (13)."""

from samebytes.errors import BadPiece
from samebytes.graphs import Graph
from samebytes.pieces import alike_pieces, pieces, ports, shape
from tests import oracle
from tests.helpers import STRANGE, Case, at, chain_graph, rings, twins

DIAMOND = Graph("a", {"a": ("list", (at("b"), at("d"))), "b": ("list", (at("c"),)), "c": ("set", (at("b"), at("d"))), "d": ("list", ())})


def piece_of(thing, **ports_of):
    """A graph with one object a in a ring with the root, and with lists behind it."""
    return Graph("root", {"root": ("list", (at("a"),)), "a": thing, **ports_of})


def lists(*marks):
    return {mark: ("list", (mark,)) for mark in marks}


class TestPieces(Case):

    def assert_pieces(self, graph, wanted):
        self.assert_exactly(pieces(graph), wanted)
        self.assertEqual({tuple(piece) for piece in wanted}, oracle.plain_pieces(graph))

    def test_pieces(self):
        self.assert_pieces(DIAMOND, [["d"], ["b", "c"], ["a"]])
        self.assert_pieces(Graph("a", {"a": ("list", ())}), [["a"]])
        self.assert_pieces(Graph("a", {"a": ("list", (at("a"),))}), [["a"]])
        self.assert_pieces(Graph("a", {"a": ("list", (at("b"),)), "b": ("list", (at("b"),))}), [["b"], ["a"]])
        self.assert_pieces(Graph("b", {"a": ("set", (at("b"),)), "b": ("dict", ((at("a"), 1),))}), [["a", "b"]])
        self.assert_pieces(Graph("b", {"a": ("set", ()), "b": ("dict", ((1, at("a")),))}), [["a"], ["b"]])
        self.assert_pieces(Graph("b", {"a": ("record", "p", (("x", at("b")),)), "b": ("dict", ((1, at("a")),))}), [["a", "b"]])
        self.assert_pieces(chain_graph(4), [["a3"], ["a2"], ["a1"], ["a0"]])

    def test_their_order(self):
        # Of those that could come next, the one with the least first mark.
        graph = Graph("a", {"a": ("list", tuple(map(at, "bcdz"))), "b": ("list", (at("z"),)), "c": ("list", ()), "d": ("list", (at("e"),)),
                            "e": ("list", (at("d"),)), "z": ("list", (at("y"),)), "y": ("list", ())})
        self.assert_pieces(graph, [["c"], ["d", "e"], ["y"], ["z"], ["b"], ["a"]])
        self.assert_pieces(rings([3, 2]), [["a0", "a1", "a2"], ["b0", "b1"], ["root"]])
        turned = Graph("a", {"a": ("list", (at("m"), at("x"))), "m": ("list", (at("z"),)), "z": ("list", (at("m"),)), "x": ("list", (at("n"),)), "n": ("set", ())})
        self.assert_pieces(turned, [["m", "z"], ["n"], ["x"], ["a"]])

    def test_against_the_words_of_the_document(self):
        chance = oracle.chances(1)
        for _ in range(150):
            graph = oracle.random_graph(chance, chance.randrange(1, 15))
            told, rest = [], sorted(oracle.plain_pieces(graph))
            while rest:
                free = [piece for piece in rest if all(any(port in other for other in told) for port in oracle.port_list(graph, piece))]
                told.append(list(free[0]))
                rest.remove(free[0])
            self.assert_pieces(graph, told)

    def test_ports(self):
        self.assert_exactly([ports(DIAMOND, piece) for piece in (["a"], ["b", "c"], ["c", "b"], ["d"])], [["b", "d"], ["d"], ["d"], []])
        every_kind = Graph("a", {"a": ("record", "p", (("x", at("b")), ("y", at("c")))), "b": ("dict", ((at("d"), at("e")), (1, at("f")))),
                                 "c": ("dict", ((at("g"), 1), (at("c"), at("d")))), **lists(*"defg")})
        self.assert_exactly([ports(every_kind, [mark]) for mark in "abc"], [["b", "c"], ["d", "e", "f"], ["d", "g"]])
        self.assert_exactly(ports(Graph("a", {"a": ("list", (at("a"), at("a")))}), ["a"]), [])
        self.assertEqual(len(ports(twins(30), ["root"])), 30)
        chance = oracle.chances(2)
        for _ in range(60):
            graph = oracle.random_graph(chance, chance.randrange(1, 12))
            for piece in pieces(graph):
                self.assert_exactly(ports(graph, chance.sample(piece, len(piece))), oracle.port_list(graph, piece))

    def test_wrong_pieces(self):
        wrong = [value for value in STRANGE if value != ["a"]] + [["b"], ["c"], ["b", "d"], ["b", "c", "d"], ["a", "b", "c"], ["b", "b"], ["b", "c", "b"],
                 ["b", "c", "c"], ["a", "a"], ["a", "b", "c", "d"], ("a",), ("b", "c"), {"a"}, {"a": 1}, "a", "d", ["z"], ["A"], ["b", "z"], [1], [None],
                 [["a"]], [["b", "c"]], [("a",)], ["b", ["c"]], [at("a")], [True], ["b", None], [{}]]
        for value in wrong:
            self.assert_error(BadPiece, "value", value, ports, DIAMOND, value)
            self.assert_error(BadPiece, "value", value, shape, DIAMOND, value)
            self.assert_error(BadPiece, "value", value, alike_pieces, DIAMOND, value, DIAMOND, ["a"])
            self.assert_error(BadPiece, "value", value, alike_pieces, DIAMOND, ["c", "b"], DIAMOND, value)
            self.assert_error(BadPiece, "value", value, alike_pieces, DIAMOND, value, None, None)


class TestShapes(Case):

    def assert_alike(self, wanted, one, piece, other, target):
        """Assert of two pieces whether they are alike, and that their shapes tell the same."""
        shapes = (shape(one, piece), shape(other, target))
        self.assertTrue(all(told.__class__ is str for told in shapes))
        self.assertIs(shapes[0] == shapes[1], wanted)
        for told in ((one, piece, other, target), (other, target, one, piece)):
            images = alike_pieces(*told)
            if wanted:
                self.assertIs(images.__class__, dict)
                self.assertTrue(oracle.is_showing(*told, images))
            else:
                self.assertIsNone(images)

    def assert_objects(self, wanted, thing, other, marks="bcd"):
        """Assert the same of two pieces of one object each, with lists behind it."""
        behind = {mark: told for mark, told in lists(*marks).items() if at(mark) in oracle.worths_of(thing)}
        further = {mark: told for mark, told in lists(*marks).items() if at(mark) in oracle.worths_of(other)}
        self.assert_alike(wanted, piece_of(thing, **behind), ["a"], piece_of(other, **further), ["a"])

    def test_shared_and_alike_ports(self):
        self.assert_objects(False, ("list", (at("b"), at("b"))), ("list", (at("b"), at("c"))))
        self.assert_objects(True, ("list", (at("b"), at("c"))), ("list", (at("d"), at("b"))))
        self.assert_objects(True, ("list", (at("b"), at("b"))), ("list", (at("c"), at("c"))))
        self.assert_objects(False, ("set", (at("b"),)), ("set", (at("b"), at("c"))))
        self.assert_objects(False, ("list", (at("b"), at("b"), at("c"))), ("list", (at("b"), at("c"), at("c"))))
        self.assert_objects(False, ("dict", ((1, at("b")), (2, at("b")))), ("dict", ((1, at("b")), (2, at("c")))))
        self.assert_objects(True, ("dict", ((1, at("b")), (2, at("c")))), ("dict", ((1, at("d")), (2, at("b")))))
        self.assert_objects(False, ("dict", ((at("b"), at("b")),)), ("dict", ((at("b"), at("c")),)))
        self.assert_objects(False, ("dict", ((at("b"), at("c")), (at("c"), at("b")))), ("dict", ((at("b"), at("b")), (at("c"), at("c")))))

    def test_own_parts_count(self):
        self.assert_objects(False, ("list", (1,)), ("list", (2,)))
        self.assert_objects(False, ("list", (1,)), ("list", ("1",)))
        self.assert_objects(False, ("list", (1,)), ("set", (1,)))
        self.assert_objects(False, ("list", (at("b"), 1)), ("list", (1, at("b"))))
        self.assert_objects(False, ("record", "p", (("x", at("b")),)), ("record", "q", (("x", at("b")),)))
        self.assert_objects(False, ("record", "p", (("x", at("b")),)), ("record", "p", (("y", at("b")),)))
        self.assert_objects(False, ("dict", ((at("b"), 1),)), ("dict", ((1, at("b")),)))
        self.assert_objects(True, ("set", (1, at("b"), "x")), ("set", (at("c"), "x", 1)))

    def test_of_a_port_nothing_else_counts(self):
        behind = [("list", ()), ("set", (1, 2)), ("record", "p", ()), ("dict", ((at("b"), 5),)), ("list", (at("c"), at("c")))]
        graphs = []
        for thing in behind:
            graphs.append(Graph("a", {"a": ("list", (at("b"), 7)), "b": thing, **({"c": ("set", ())} if at("c") in oracle.worths_of(thing) else {})}))
        for one in graphs:
            for other in graphs:
                self.assert_alike(True, one, ["a"], other, ["a"])
        # How it hangs together with other ports does not count, nor whether another piece refers to it.
        one = Graph("a", {"a": ("set", (at("b"), at("c"))), "b": ("list", (at("c"),)), "c": ("list", ())})
        other = Graph("r", {"r": ("list", (at("a"), at("b"))), "a": ("set", (at("b"), at("c"))), "b": ("list", ()), "c": ("set", ())})
        self.assert_alike(True, one, ["a"], other, ["a"])

    def test_the_root_does_not_count(self):
        ring = {"a": ("list", (at("b"), 1)), "b": ("list", (at("a"), 2))}
        self.assert_alike(True, Graph("a", ring), ["a", "b"], Graph("b", ring), ["b", "a"])
        chain = chain_graph(4)
        for mark in ("a0", "a1", "a2"):
            self.assert_alike(True, chain, ["a0"], chain, [mark])
            self.assert_alike(False, chain, ["a3"], chain, [mark])

    def test_rings(self):
        def ring_of(sizes, both=True):
            graph = rings(sizes, both)
            things = graph.objects
            marks = [mark for mark in graph if mark != "root"]
            # All objects refer to the root, so that all are one piece.
            return Graph("root", {**things, **{mark: ("set", (*things[mark][1], at("root"))) for mark in marks}})
        for one, other, wanted in (([6], [3, 3], False), ([3, 4], [4, 3], True), ([3, 3, 6], [6, 3, 3], True), ([3, 3, 6], [4, 4, 4], False)):
            for both in (True, False):
                first, second = ring_of(one, both), ring_of(other, both)
                self.assert_alike(wanted, first, first.marks, second, second.marks[::-1])
        first, second = rings([6]), rings([6], False)
        self.assert_alike(False, first, first.marks[:-1], second, second.marks[:-1])
        self.assert_alike(True, first, ["root"], twins(6), ["root"])
        self.assert_alike(True, rings([3, 3]), ["a0", "a1", "a2"], rings([3, 3]), ["b2", "b0", "b1"])

    def test_against_all_maps(self):
        chance = oracle.chances(3)
        alike = 0
        for _ in range(80):
            kinds = chance.choice((("set",), ("dict",), ("list", "set"), ("record", "list", "set", "dict")))
            one = oracle.random_graph(chance, chance.randrange(1, 7), kinds)
            other = oracle.shuffled(chance, one) if chance.random() < 0.5 else oracle.random_graph(chance, chance.randrange(1, 7), kinds)
            for piece in pieces(one):
                for target in pieces(other):
                    wanted = oracle.are_alike_pieces(one, piece, other, target)
                    self.assert_alike(wanted, one, chance.sample(piece, len(piece)), other, chance.sample(target, len(target)))
                    alike += wanted
        self.assertGreater(alike, 50)

    def test_great_pieces(self):
        chance = oracle.chances(4)
        size = 30
        marks = [f"a{index}" for index in range(size)]
        ends = [f"b{index}" for index in range(size)]

        def great(refers):
            """A ring of thirty, each of which refers to one or two of thirty ports by this rule."""
            things = {mark: ("set", (at(marks[(index + 1) % size]), *{at(ends[end % size]): 1 for end in refers(index)}))
                      for index, mark in enumerate(marks)}
            used = {worth[1] for thing in things.values() for worth in thing[1]}
            return Graph("a0", {**things, **{end: ("list", (end,)) for end in ends if end in used}})
        rules = [lambda index: [index], lambda index: [index, index + 1], lambda index: [index, index + 2], lambda index: [index // 2],
                 lambda index: [0], lambda index: [index, 2 * index], lambda index: [index % 3], lambda index: [index + 1, index + 2]]
        graphs = [great(rule) for rule in rules]
        for place, one in enumerate(graphs):
            other = oracle.shuffled(chance, one)
            self.assert_alike(True, one, marks, other, pieces(other)[-1])
            for index, other in enumerate(graphs[:place + 1]):
                wanted = place == index or {place, index} == {1, 7}
                self.assert_alike(wanted, one, marks, other, marks)

    def test_dozens_of_alike_ports(self):
        chance = oracle.chances(5)
        for number in (28, 29, 30):
            one = twins(number)
            for other in (oracle.shuffled(chance, one), twins(number, ("set", (5,)))):
                self.assert_alike(True, one, ["root"], other, [other.root])
            self.assert_alike(False, one, ["root"], twins(number - 1), ["root"])
        ends = [f"z{index}" for index in range(28)]
        alike = {end: ("list", ()) for end in ends}
        pairs = [Graph("a", {"a": ("set", (at("b"), *map(at, ends))), "b": ("dict", tuple((at(end), at(turned)) for end, turned in zip(ends, order))
                                                                             + ((at("a"), 1),)), **alike})
                 for order in (ends, ends[1:] + ends[:1], ends[1:2] + ends[:1] + ends[2:])]
        for place, one in enumerate(pairs):
            for index, other in enumerate(pairs):
                self.assert_alike(place == index, one, ["a", "b"], other, ["b", "a"])

    def test_a_shape_of_its_own(self):
        self.assertNotEqual(shape(DIAMOND, ["a"]), shape(DIAMOND, ["d"]))
        self.assertEqual(shape(DIAMOND, ["b", "c"]), shape(DIAMOND, ["c", "b"]))
        told = [shape(graph, pieces(graph)[-1]) for graph in (DIAMOND, DIAMOND.renamed({"a": "z", "b": "y", "d": "a"}))]
        self.assertEqual(*told)
