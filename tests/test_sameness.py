"""Sameness (7), and all maps that keep two graphs."""

import itertools
import math

from samebytes.graphs import Graph
from samebytes.maps import keeps
from samebytes.papers import every_map, is_same, sameness
from tests import oracle
from tests.helpers import Case, at, chain_graph, rings, twins


def first_of(generator, number):
    return list(itertools.islice(generator, number))


class TestSameness(Case):

    def assert_same(self, one, other, *marked):
        for first, second, told in ((one, other, marked), (other, one, marked[::-1])):
            images = sameness(first, second, *told)
            self.assertIs(images.__class__, dict)
            self.assertIs(keeps(first, second, images, *told), True)
            self.assertIs(is_same(first, second), True)

    def assert_unlike(self, one, other, *marked):
        for first, second, told in ((one, other, marked), (other, one, marked[::-1])):
            self.assertIsNone(sameness(first, second, *told))
            if not marked:
                self.assertIs(is_same(first, second), False)

    def test_sharing_counts(self):
        lists = {"b": ("list", ()), "c": ("list", ())}
        one = Graph("a", {"a": ("list", (at("b"), at("b"))), "b": ("list", ())})
        two = Graph("a", {"a": ("list", (at("b"), at("c"))), **lists})
        self.assert_unlike(one, two)
        self.assert_same(two, two.renamed({"b": "c", "c": "b"}))
        self.assert_unlike(Graph("a", {"a": ("set", (at("b"),)), "b": ("list", ())}), Graph("a", {"a": ("set", (at("b"), at("c"))), **lists}))

    def test_rings_count(self):
        self.assert_unlike(rings([3, 3]), rings([6]))
        self.assert_unlike(rings([3, 3], False), rings([6], False))
        self.assert_unlike(rings([4, 4, 3, 3]), rings([3, 3, 8]))
        self.assert_same(rings([3, 4, 5]), rings([5, 3, 4]))
        self.assert_same(rings([3, 4, 5], False, "dict"), rings([5, 3, 4], False, "dict"))
        self.assert_unlike(rings([3, 4, 5], False), rings([5, 3, 4], True))

    def test_order_does_not_count(self):
        chance = oracle.chances(1)
        for _ in range(150):
            one = oracle.random_graph(chance, chance.randrange(1, 12))
            self.assert_same(one, oracle.shuffled(chance, one))

    def test_the_root_counts(self):
        things = {"a": ("list", (at("b"), 1)), "b": ("list", (at("a"), 2))}
        self.assert_unlike(Graph("a", things), Graph("b", things))
        ring = {"a": ("list", (at("b"),)), "b": ("list", (at("a"),))}
        self.assert_same(Graph("a", ring), Graph("b", ring))

    def test_marked(self):
        ring = rings([6])
        for other in ring.marks[:-1]:
            self.assert_same(ring, ring, ("a0",), (other,))
        self.assert_unlike(ring, ring, ("a0",), ("root",))
        self.assert_same(ring, ring, ("a0", "a2"), ("a5", "a3"))
        self.assert_unlike(ring, ring, ("a0", "a2"), ("a5", "a2"))
        self.assert_same(ring, ring, ("a0", "a0"), ("a5", "a5"))
        self.assert_unlike(ring, ring, ("a0", "a0"), ("a5", "a4"))
        self.assert_unlike(ring, ring, ("a5", "a4"), ("a0", "a0"))
        self.assert_same(ring, ring, ("root", "a1", "root"), ("root", "a4", "root"))

    def test_against_all_maps(self):
        chance = oracle.chances(2)
        same = 0
        for _ in range(250):
            kinds = chance.choice((("record", "list", "set", "dict"), ("set",), ("dict",), ("list", "set")))
            one = oracle.random_graph(chance, chance.randrange(1, 6), kinds)
            other = oracle.shuffled(chance, one) if chance.random() < 0.4 else oracle.random_graph(chance, chance.randrange(1, 6), kinds)
            marked = tuple(chance.choice(one.marks) for _ in range(chance.randrange(3)))
            others = tuple(chance.choice(other.marks) for _ in marked)
            right = oracle.all_maps(one, other, marked, others)
            told = sameness(one, other, marked, others)
            self.assertTrue(told in right if right else told is None)
            self.assertIs(is_same(one, other), bool(oracle.all_maps(one, other)))
            same += bool(right)
        self.assertGreater(same, 40)

    def test_graphs_with_very_many_maps(self):
        for graph in (twins(30), twins(30, ("set", (1, "x"))), rings([3] * 10), rings([5] * 6, False)):
            self.assert_same(graph, graph)
            self.assert_same(graph, oracle.shuffled(oracle.chances(4), graph))
        self.assert_unlike(twins(30), twins(29))
        self.assert_unlike(rings([3] * 10), rings([3] * 8 + [6]))
        self.assert_same(chain_graph(60), chain_graph(60))


class TestEveryMap(Case):

    def test_none_and_one(self):
        self.assertEqual(list(every_map(twins(2), twins(3))), [])
        self.assertEqual(list(every_map(rings([3, 3]), rings([6]))), [])
        self.assert_exactly(list(every_map(Graph("a", {"a": ("list", ())}), Graph("b", {"b": ("list", ())}))), [{"a": "b"}])
        self.assertEqual(list(every_map(chain_graph(40), chain_graph(40))), [{mark: mark for mark in chain_graph(40)}])

    def test_many(self):
        told = [[images[mark] for mark in twins(4)] for images in every_map(twins(4), twins(4))]
        self.assertEqual(told, [["root", *order] for order in itertools.permutations(["t0", "t1", "t2", "t3"])])
        self.assertEqual(len(list(every_map(twins(6), twins(6)))), 720)
        self.assertEqual(len(list(every_map(rings([3, 3]), rings([3, 3])))), 72)
        self.assertEqual(len(list(every_map(rings([3, 3], False), rings([3, 3], False)))), 18)
        self.assertEqual(len(list(every_map(rings([4, 3]), rings([3, 4])))), 48)

    def test_against_all_maps(self):
        chance = oracle.chances(3)
        for index in range(150):
            kinds = chance.choice((("record", "list", "set", "dict"), ("set",), ("dict",), ("list", "set")))
            one = oracle.random_graph(chance, chance.randrange(1, 6), kinds)
            other = oracle.shuffled(chance, one) if index % 4 else oracle.random_graph(chance, chance.randrange(1, 6), kinds)
            self.assert_exactly(list(every_map(one, other)), oracle.all_maps(one, other))

    def test_shuffled_rings(self):
        chance = oracle.chances(5)
        for sizes in ([3, 3], [6], [2, 2, 2], [4, 2], [5, 1], [1, 1, 2, 2]):
            for both in (True, False):
                one, other = (oracle.shuffled(chance, rings(sizes, both)) for _ in range(2))
                self.assertEqual(list(every_map(one, other)), oracle.all_maps(one, other))

    def test_the_first_ones_of_very_many(self):
        graph = twins(30)
        told = first_of(every_map(graph, graph), 25)
        marks = graph.marks
        self.assertEqual(told[0], {mark: mark for mark in marks})
        self.assertEqual([[images[mark] for mark in marks[-4:]] for images in told[:24]],
                         [list(order) for order in itertools.permutations(marks[-4:])])
        # The 25th is the first one in which the last mark but four is moved.
        self.assertEqual([told[24][mark] for mark in marks[-5:]], [marks[-4], marks[-5], *marks[-3:]])

    def test_hidden_unlike_objects(self):
        # No round parts the rings of three from the one of six, but no map takes one to the other.
        graph = rings([6, 3, 3])
        told = list(every_map(graph, graph))
        self.assertEqual(len(told), 12 * 72)
        self.assertEqual(len({tuple(sorted(images.items())) for images in told}), 12 * 72)
        for images in told:
            self.assertIs(keeps(graph, graph, images), True)
        images = [[images[mark] for mark in graph] for images in told]
        self.assertEqual(images, sorted(images))

    def test_a_step_at_a_time(self):
        graph = twins(5)
        generator = every_map(graph, graph)
        first = next(generator)
        first.clear()
        self.assertEqual(next(generator), {**{mark: mark for mark in graph}, "t3": "t4", "t4": "t3"})
        self.assertEqual(len(list(generator)), math.factorial(5) - 2)
