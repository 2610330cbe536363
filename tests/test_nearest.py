"""Costs of maps (16), the least one, and the bound below it."""

import itertools

from samebytes.errors import BadArgument, BadMap, LimitExceeded
from samebytes.graphs import Graph
from samebytes.maps import backwards
from samebytes.nearest import cost, cost_bound, nearest
from samebytes.papers import is_same, sameness
from tests import oracle
from tests.helpers import NO_DICTS, STRANGE, Case, at, chain_graph, rings, twins
from tests.plain import a_graph, partial_maps, plain_bound, plain_cost, random_change

ONE = Graph("a", {"a": ("set", (at("b"), at("c"))), "b": ("list", ()), "c": ("list", (1,))})
OTHER = Graph("x", {"x": ("set", (at("y"), at("z"))), "y": ("list", ()), "z": ("list", (2,))})


def small_pairs(seed, number, most):
    """Pairs of small graphs, many of them nearly the same."""
    chance = oracle.chances(seed)
    for _ in range(number):
        one = a_graph(chance, chance.randrange(1, most + 1), most, chance.choice((("set",), ("list", "set"), ("record", "list", "set", "dict"))))
        other = a_graph(chance, chance.randrange(1, most + 1), most)
        if chance.random() < 0.7:
            other = random_change(chance, one, one.marks + [f"n{index}" for index in range(most - len(one))])
        yield one, oracle.shuffled(chance, other) if chance.random() < 0.7 else other


class TestCost(Case):

    def test_counted_by_hand(self):
        for images, wanted in (({"a": "x", "b": "y", "c": "z"}, 1), ({}, 7), ({"a": "x"}, 5), ({"b": "y"}, 5), ({"c": "z"}, 6), ({"b": "y", "c": "z"}, 4),
                               ({"a": "x", "b": "y"}, 3), ({"a": "x", "c": "z"}, 4), ({"a": "x", "b": "z", "c": "y"}, 2), ({"a": "y"}, 6), ({"a": "y", "b": "x", "c": "z"}, 4),
                               ({"b": "x"}, 6)):
            self.assert_exactly(cost(ONE, OTHER, images), wanted)
            self.assert_exactly(cost(OTHER, ONE, {image: mark for mark, image in images.items()}), wanted)

    def test_references_replaced(self):
        one = Graph("a", {"a": ("dict", ((at("b"), at("c")), (1, at("a")))), "b": ("record", "p", (("n", at("c")), ("x", 1))), "c": ("list", (at("a"), at("b"), 0))})
        stay = {"a": "a", "b": "b", "c": "c"}
        self.assert_exactly(cost(one, one, stay), 0)
        other = one.renamed({"a": "b", "b": "c", "c": "a"})
        self.assert_exactly((cost(one, other, {"a": "b", "b": "c", "c": "a"}), cost(one, other, stay)), (0, 4))
        # Another order of parts means nothing, but of items it does.
        turned = Graph("a", {"a": ("dict", ((1, at("a")), (at("b"), at("c")))), "b": ("record", "p", (("x", 1), ("n", at("c")))), "c": ("list", (at("b"), at("a"), 0))})
        self.assert_exactly(cost(one, turned, stay), 1)
        key = Graph("a", {"a": ("dict", ((at("c"), at("b")), (1, at("a")))), "b": one["b"], "c": one["c"]})
        self.assert_exactly(cost(one, key, stay), 1)

    def test_references_to_what_is_left_out(self):
        one = Graph("a", {"a": ("list", (at("b"), at("c"))), "b": ("list", (at("a"),)), "c": ("list", ())})
        self.assert_exactly(cost(one, one, {"a": "a", "b": "b"}), 3)
        self.assert_exactly(cost(one, one, {"b": "b", "c": "c"}), 4)
        self.assert_exactly(cost(one, one, {"a": "a", "b": "b", "c": "c"}), 0)
        # It is never the same, also if the other object refers to what is left out there.
        self.assert_exactly(cost(one, one, {"a": "a"}), 5)
        self.assert_exactly(cost(one, one, {"c": "c"}), 5)
        ring = Graph("a", {"a": ("list", (at("a"),))})
        self.assert_exactly((cost(ring, ring, {"a": "a"}), cost(ring, ring, {})), (0, 3))

    def test_the_root(self):
        ring = Graph("a", {"a": ("list", (at("b"),)), "b": ("list", (at("a"),))})
        self.assert_exactly((cost(ring, ring, {"a": "b", "b": "a"}), cost(ring, ring, {"a": "a", "b": "b"})), (1, 0))
        self.assert_exactly((cost(ring, ring.part("b"), {"a": "a", "b": "b"}), cost(ring, ring.part("b"), {"a": "b", "b": "a"})), (1, 0))

    def test_against_a_plain_second_program(self):
        for one, other in small_pairs(1, 60, 4):
            for images in partial_maps(one, other):
                self.assert_exactly(cost(one, other, images), plain_cost(one, other, images) + 0)

    def test_great_graphs(self):
        stay = {mark: mark for mark in twins(30)}
        self.assert_exactly(cost(twins(30), twins(30), stay), 0)
        self.assert_exactly(cost(twins(30), twins(30, ("list", (1,))), stay), 30)
        self.assert_exactly(cost(chain_graph(60), chain_graph(60), {}), 121)
        self.assert_exactly(cost(chain_graph(60), chain_graph(59), {mark: mark for mark in chain_graph(59)}), 2)
        one = rings([10, 10])
        images = {mark: mark.translate({97: "b", 98: "a"}) for mark in one}
        self.assert_exactly(cost(one, one, {**images, "root": "root"}), 0)

    def test_wrong_maps(self):
        wrong = NO_DICTS + [{"a": "y", "b": "y"}, {"a": "a"}, {"x": "x"}, {"a": "x", "d": "y"}, {"a": "x", "b": None}, {"a": 1}, {1: "x"}, {None: "x"}, {True: "x"},
                            {"a": True}, {"a": ["x"]}, {"a": {"x": "x"}}, {"A": "x"}, {"a": "X"}, {at("a"): "x"}, {"a": at("x")}, {("a",): "x"}, {"": "x"},
                            {"a": "x", "b": "x", "c": "x"}, {"a": "x", "b": "y", "c": "z", "d": "q"}, {"a": ("x",)}, [("a", "x")], "ax", {"a"}, {"a": set()}]
        for value in wrong + [value for value in STRANGE if isinstance(value, dict) and value]:
            self.assert_error(BadMap, "value", value, cost, ONE, OTHER, value)


class TestNearest(Case):

    def test_by_hand(self):
        self.assert_exactly(nearest(ONE, OTHER), (1, {"a": "x", "b": "y", "c": "z"}))
        self.assert_exactly(nearest(ONE, ONE), (0, {"a": "a", "b": "b", "c": "c"}))
        self.assert_exactly(nearest(Graph("a", {"a": ("list", ())}), Graph("b", {"b": ("set", ())})), (1, {"a": "b"}))
        self.assert_exactly(nearest(chain_graph(6), chain_graph(5))[0], 2)
        self.assert_exactly(nearest(chain_graph(1), chain_graph(6))[0], 6)
        ring = Graph("a", {"a": ("list", (at("b"), 1)), "b": ("list", (at("a"), 2))})
        self.assert_exactly(nearest(ring, Graph("b", ring.objects)), (1, {"a": "a", "b": "b"}))

    def test_against_all_maps(self):
        zeros = 0
        for one, other in small_pairs(2, 120, 4):
            least = min(plain_cost(one, other, images) for images in partial_maps(one, other))
            told, images = nearest(one, other)
            self.assert_exactly((told, cost(one, other, images)), (least + 0, least + 0))
            self.assertIs(images.__class__, dict)
            self.assertEqual(plain_cost(one, other, images), least)
            self.assertEqual(told == 0, is_same(one, other))
            zeros += told == 0
            self.assertEqual(nearest(other, one)[0], told)
            self.assertLessEqual(cost_bound(one, other), told)
        self.assertGreater(zeros, 10)

    def test_six_objects(self):
        # Six and five objects: trying all maps that leave out objects of one graph alone is enough for this test.
        for one, other in small_pairs(3, 25, 6):
            told, images = nearest(one, other)
            small, great = (one, other) if len(one) <= len(other) else (other, one)
            least = min(plain_cost(small, great, dict(zip(small, marks))) for marks in itertools.permutations(great.marks, len(small)))
            self.assert_exactly((told, plain_cost(one, other, images) + 0), (least + 0, least + 0))
            self.assertEqual(nearest(other, one)[0], told)
        six = Graph("a", {"a": ("set", tuple(map(at, "bcdef"))), **{mark: ("set", (at("a"),)) for mark in "bcdef"}})
        self.assert_exactly(nearest(six, six)[0], 0)

    def test_whatever_the_marks(self):
        chance = oracle.chances(4)
        for one, other in small_pairs(5, 30, 5):
            told = nearest(one, other)[0]
            for _ in range(3):
                self.assertEqual(nearest(oracle.shuffled(chance, one), oracle.shuffled(chance, other))[0], told)

    def test_same_graphs(self):
        chance = oracle.chances(6)
        for _ in range(20):
            one = oracle.random_graph(chance, 6)
            other = oracle.shuffled(chance, one)
            told, images = nearest(one, other)
            self.assertEqual(told, 0)
            self.assertEqual(plain_cost(one, other, images), 0)
            self.assertEqual(cost(one, other, sameness(one, other)), 0)
            self.assertEqual(cost(other, one, backwards(images)), 0)

    def test_too_many_objects(self):
        for number in (7, 8, 60):
            self.assert_error(LimitExceeded, "number", number, nearest, chain_graph(number), ONE)
            self.assert_error(LimitExceeded, "number", number, nearest, ONE, chain_graph(number))
            self.assert_error(LimitExceeded, "number", number, nearest, chain_graph(number), chain_graph(9))
            self.assert_error(BadArgument, "value", None, nearest, chain_graph(number), None)
        self.assertEqual(nearest(chain_graph(6), chain_graph(6))[0], 0)


class TestBound(Case):

    def test_by_hand(self):
        self.assert_exactly(cost_bound(ONE, OTHER), 1)
        self.assert_exactly((cost_bound(ONE, ONE), cost_bound(twins(30), twins(29)), cost_bound(twins(29), twins(30))), (0, 2, 2))
        self.assert_exactly((cost_bound(chain_graph(60), chain_graph(1)), cost_bound(chain_graph(1), chain_graph(60))), (59, 59))
        self.assert_exactly(cost_bound(rings([3, 3]), rings([6])), 0)

    def test_sorts(self):
        empty = {mark: ("list", ()) for mark in "bcd"}
        alike = [[("set", (at("b"), at("c"), 1)), ("set", (1, at("d"), at("b")))], [("list", (at("b"), 1, at("b"))), ("list", (at("c"), 1, at("d")))],
                 [("record", "p", (("x", at("b")), ("y", 1))), ("record", "p", (("y", 1), ("x", at("d"))))],
                 [("dict", ((at("b"), 1), (at("c"), 1), (2, at("d")))), ("dict", ((at("d"), 1), (2, at("b")), (at("b"), 1)))],
                 [("dict", ((at("b"), at("b")),)), ("dict", ((at("c"), at("d")),))], [("set", (at("b"), 2)), ("set", (2, at("b")))]]
        unlike = [[("set", (at("b"),)), ("set", (at("b"), at("c")))], [("list", (at("b"), 1)), ("list", (1, at("b")))], [("list", ()), ("set", ())],
                  [("record", "p", (("x", at("b")),)), ("record", "p", (("y", at("b")),))], [("record", "p", ()), ("record", "q", ())],
                  [("dict", ((at("b"), 1),)), ("dict", ((1, at("b")),))], [("dict", ((at("b"), at("c")),)), ("dict", ((at("b"), 1),))],
                  [("dict", ((at("b"), 1), (at("c"), 1))), ("dict", ((at("b"), 1), (at("c"), 2)))], [("list", (1,)), ("list", ("1",))], [("set", (0,)), ("set", (at("b"),))],
                  [("dict", ((at("b"), 1),)), ("dict", ((at("b"), 1), (at("c"), 1)))], [("dict", ()), ("set", ())], [("record", "p", (("x", 1),)), ("record", "p", (("x", 2),))]]
        root = ("list", (at("t"), at("b"), at("c"), at("d")))
        for pairs, wanted in ((alike, 0), (unlike, 1)):
            for first, second in pairs:
                one, other = (Graph("r", {"r": root, "t": thing, **empty}) for thing in (first, second))
                self.assert_exactly((cost_bound(one, other), cost_bound(other, one)), (wanted, wanted))

    def test_the_greater_sum(self):
        one = Graph("r", {"r": ("set", tuple(map(at, "abc"))), "a": ("list", ()), "b": ("list", (1,)), "c": ("list", (2,))})
        other = Graph("r", {"r": ("set", tuple(map(at, "abcde"))), "a": ("list", ()), "b": ("list", (1,)), "c": ("list", (3,)), "d": ("list", (4,)), "e": ("list", (5,))})
        self.assert_exactly((cost_bound(one, other), cost_bound(other, one)), (4, 4))

    def test_against_counting(self):
        for one, other in small_pairs(7, 150, 12):
            self.assert_exactly(cost_bound(one, other), plain_bound(one, other))
            self.assertEqual(cost_bound(other, one), plain_bound(one, other))

    def test_no_cost_is_below(self):
        for one, other in small_pairs(8, 25, 4):
            bound = cost_bound(one, other)
            for images in partial_maps(one, other):
                self.assertLessEqual(bound, cost(one, other, images))
