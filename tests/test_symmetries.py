"""Symmetries, families, what makes up all, and papers of the number (10)."""

import math

from samebytes.colours import classes
from samebytes.errors import BadMap, LimitExceeded, UnknownMark
from samebytes.graphs import Graph
from samebytes.maps import keeps, then
from samebytes.papers import difference, every_map
from samebytes.symmetries import carried, check_number, families, made_by, number_paper, symmetries
from tests import oracle
from tests.helpers import HUGE, STRANGE, Case, at, chain_graph, rings, twins
from tests.test_forms import great_graphs, tree
from tests.test_papers import of_neighbours, rook, shrikhande


def random_graphs(seed, number):
    chance = oracle.chances(seed)
    for _ in range(number):
        if chance.random() < 0.5:
            sizes = chance.choice(([3, 3], [6], [2, 2, 2], [4, 2], [3, 1, 1], [5], [1] * 5, [2, 1, 1]))
            yield chance, rings(sizes, chance.random() < 0.5, chance.choice(("set", "list", "dict")))
        else:
            yield chance, oracle.random_graph(chance, chance.randrange(1, 7), chance.choice((("set",), ("dict",), ("record", "list", "set", "dict"))))


KNOWN = [
    (chain_graph(1), 1), (chain_graph(60), 1), (rings([6]), 12), (rings([6], False), 6), (rings([3, 3]), 72), (rings([3, 3], False), 18),
    (rings([3, 6, 3]), 12 * 72), (rings([30]), 60), (rings([30], False), 30), (rings([2] * 12), 2 ** 12 * math.factorial(12)),
    (rings([5] * 6), 10 ** 6 * 720), (rings([5] * 6, False), 5 ** 6 * 720), (rings([3] * 10), 6 ** 10 * math.factorial(10)),
    (tree(2), 2), (tree(3), 8), (tree(5), 2 ** 15), (of_neighbours(rook()), 1152), (of_neighbours(shrikhande()), 192),
    *[(twins(number), math.factorial(number)) for number in range(1, 31)],
]


class TestSymmetries(Case):

    def assert_symmetries(self, graph, number, marked=()):
        told, maps = symmetries(graph, marked)
        self.assert_exactly(told, number)
        self.assertIs(maps.__class__, list)
        self.assertNotEqual(maps, [])
        for images in maps:
            self.assertIs(keeps(graph, graph, images, marked, marked), True)
        return maps

    def test_known_numbers(self):
        for graph, number in KNOWN:
            maps = self.assert_symmetries(graph, number)
            if number <= 5040:
                self.assert_exactly(made_by(graph, maps), number)

    def test_one_alone(self):
        for graph, marked in ((chain_graph(1), ()), (chain_graph(5), ("a1",)), (twins(2), ("t0",)), (rings([4], False), ("root", "a2"))):
            self.assert_exactly(symmetries(graph, marked), (1, [{mark: mark for mark in graph}]))

    def test_great_graphs(self):
        numbers = [symmetries(graph)[0] for graph in great_graphs()]
        all_29 = math.factorial(29)
        self.assertEqual(numbers[:9], [math.factorial(30)] * 2 + [all_29, all_29 ** 2, all_29 ** 2, all_29, all_29, math.factorial(30),
                                                                  2 * math.factorial(15) ** 2])

    def test_against_all_maps(self):
        for chance, graph in random_graphs(1, 150):
            marked = tuple(chance.choice(graph.marks) for _ in range(chance.randrange(3)))
            right = oracle.all_maps(graph, graph, marked, marked)
            maps = self.assert_symmetries(graph, len(right), marked)
            self.assertEqual(len(oracle.all_made(graph, maps)), len(right))
            self.assertEqual(families(graph, marked), sorted([sorted({images[mark] for images in right}) for mark in graph
                                                              if mark == min(images[mark] for images in right)]))

    def test_marked(self):
        self.assert_symmetries(twins(5), 24, ("t0",))
        self.assert_symmetries(twins(5), 24, ("t0", "t0", "root"))
        self.assert_symmetries(twins(5), 6, ("t4", "t0"))
        self.assert_symmetries(rings([6]), 2, ("a0",))
        self.assert_symmetries(rings([6]), 2, ("a0", "a3"))
        self.assert_symmetries(rings([6]), 1, ("a0", "a2"))
        self.assert_symmetries(rings([6], False), 1, ("a0",))

    def test_other_marks_and_orders_change_nothing(self):
        chance = oracle.chances(2)
        for graph, number in KNOWN[:18]:
            self.assert_symmetries(oracle.shuffled(chance, graph), number)


class TestFamilies(Case):

    def test_families(self):
        self.assert_exactly(families(chain_graph(1)), [["a0"]])
        self.assert_exactly(families(twins(3)), [["root"], ["t0", "t1", "t2"]])
        self.assert_exactly(families(twins(3), ("t1",)), [["root"], ["t0", "t2"], ["t1"]])
        self.assert_exactly(families(twins(3), ("root",)), [["root"], ["t0", "t1", "t2"]])
        self.assert_exactly(families(rings([6]), ("a1",)), [["a0", "a2"], ["a1"], ["a3", "a5"], ["a4"], ["root"]])

    def test_objects_that_the_rounds_do_not_part(self):
        graph = rings([3, 6, 3])
        ring, others = [f"b{index}" for index in range(6)], [f"{ring}{index}" for ring in "ac" for index in range(3)]
        self.assertEqual(classes(graph), [sorted(ring + others), ["root"]])
        self.assertEqual(families(graph), [others, ring, ["root"]])
        self.assertIsNone(carried(graph, "a0", "b0"))
        self.assertIs(keeps(graph, graph, carried(graph, "a0", "c1"), ("a0",), ("c1",)), True)

    def test_carried(self):
        for chance, graph in random_graphs(3, 60):
            right = oracle.all_maps(graph, graph)
            told = families(graph)
            for mark in graph:
                for target in graph:
                    images = carried(graph, mark, target)
                    self.assertEqual(images is not None, any(images[mark] == target for images in right))
                    self.assertEqual(images is not None, any(mark in family and target in family for family in told))
                    if images is not None:
                        self.assertTrue(images in right and images[mark] == target)

    def test_carried_in_great_graphs(self):
        graph = twins(30)
        self.assertIs(keeps(graph, graph, carried(graph, "t0", "t29"), ("t0",), ("t29",)), True)
        self.assertIsNone(carried(graph, "root", "t29"))
        self.assertEqual(carried(graph, "root", "root")["root"], "root")
        self.assert_error(UnknownMark, "value", "t30", carried, graph, "t0", "t30")
        self.assert_error(UnknownMark, "value", "t30", carried, graph, "t30", "t31")


class TestMadeBy(Case):

    def test_made_by(self):
        graph = twins(5)
        stay = {mark: mark for mark in graph}
        swap, turn = {**stay, "t0": "t1", "t1": "t0"}, {**stay, "t0": "t1", "t1": "t2", "t2": "t3", "t3": "t4", "t4": "t0"}
        for maps, number in (([], 1), ([stay], 1), ([swap], 2), ([turn], 5), ([stay, turn, swap], 120), ([swap, swap], 2), ([turn, swap, turn], 120),
                             ([swap, {**stay, "t2": "t3", "t3": "t2"}], 4), ([swap, {**stay, "t1": "t2", "t2": "t1"}], 6), ([then(turn, turn)], 5)):
            self.assert_exactly(made_by(graph, maps), number)
            self.assertEqual(len(oracle.all_made(graph, maps)), number)

    def test_against_carrying_out(self):
        for chance, graph in random_graphs(4, 40):
            right = oracle.all_maps(graph, graph)
            maps = [chance.choice(right) for _ in range(chance.randrange(4))]
            self.assert_exactly(made_by(graph, maps), len(oracle.all_made(graph, maps)))

    def test_5040_and_more(self):
        for graph in (twins(7), rings([2, 2, 2, 2, 1, 1, 1])):
            told = symmetries(graph)
            if told[0] <= 5040:
                self.assert_exactly(made_by(graph, told[1]), told[0])
        self.assert_exactly(made_by(twins(7), list(every_map(twins(7), twins(7)))), 5040)
        for graph in (twins(8), twins(30), rings([5] * 6)):
            self.assert_error(LimitExceeded, "number", 5040, made_by, graph, symmetries(graph)[1])
        # 5040 of a greater number are not too many, and 5041 are not needed: these make up 7! and twice as many.
        graph = twins(9)
        maps = symmetries(graph, ("t7", "t8"))[1]
        self.assert_exactly(made_by(graph, maps), 5040)
        swap = {**{mark: mark for mark in graph}, "t7": "t8", "t8": "t7"}
        self.assert_error(LimitExceeded, "number", 5040, made_by, graph, [*maps, swap])
        self.assert_exactly(made_by(graph, [swap, maps[0]]), 4)

    def test_wrong_lists(self):
        graph = Graph("a", {"a": ("set", (at("b"), at("c"), at("d"))), "b": ("list", ()), "c": ("list", ()), "d": ("list", (1,))})
        stay = {mark: mark for mark in graph}
        swap = {**stay, "b": "c", "c": "b"}
        wrong = [{}, {**stay, "b": "d", "d": "b"}, {**stay, "c": "b"}, {**stay, "e": "e"}, {"a": "a", "b": "b", "c": "c"}, {**stay, "a": "b", "b": "a"},
                 {**stay, "b": 1}, {**stay, "b": None}, {**stay, "b": "e"}, list(stay.items()), [swap], (swap,), True]
        for value in [*STRANGE, swap, (swap,), {0: swap}, {"a": swap}, "a"]:
            if value != []:
                self.assert_error(BadMap, "value", value, made_by, graph, value)
        for images in wrong + [value for value in STRANGE if value != []]:
            for maps in ([images], [swap, images], [images, stay]):
                self.assert_error(BadMap, "value", maps, made_by, graph, maps)
        # Wrong ones come before too many.
        maps = [*symmetries(twins(8))[1], {}]
        self.assert_error(BadMap, "value", maps, made_by, twins(8), maps)


class TestNumberPaper(Case):

    def assert_paper(self, graph, number):
        paper = number_paper(graph)
        self.assertIs(check_number(graph, number, paper), True)
        for wrong in (number + 1, number - 1, 0, -number, 2 * number, number + HUGE, True, False, None, str(number), [number], float(min(number, 99)), (number,)):
            self.assertIs(check_number(graph, wrong, paper), False)
        return paper

    def test_known_numbers(self):
        for graph, number in KNOWN:
            paper = self.assert_paper(graph, number)
            if len(graph) < 8:
                self.assertEqual(oracle.shown_number(graph, paper), number)

    def test_great_graphs(self):
        for graph in great_graphs():
            self.assert_paper(graph, symmetries(graph)[0])

    def test_against_all_maps(self):
        for _, graph in random_graphs(5, 100):
            number = len(oracle.all_maps(graph, graph))
            self.assertEqual(oracle.shown_number(graph, self.assert_paper(graph, number)), number)

    def test_objects_that_the_rounds_do_not_part(self):
        for sizes, number in (([3, 6, 3], 12 * 72), ([6, 6, 3, 3], 288 * 72), ([4, 4, 3, 5], 128 * 60), ([3, 3, 4], 72 * 8)):
            paper = self.assert_paper(rings(sizes), number)
            self.assertTrue(any(level[3] for level in paper[:-1]))

    def test_some_number_is_1(self):
        for graph in (chain_graph(1), chain_graph(5)):
            paper = self.assert_paper(graph, 1)
            self.assertIs(check_number(graph, True, paper), False)
            self.assertEqual([level[0] for level in paper], ["alone"])


class TestCheckNumber(Case):

    def assert_right(self, graph, number, *values):
        for value in values:
            self.assertIs(check_number(graph, number, value), True)
            self.assertIs(check_number(graph, number + 1, value), False)

    def assert_wrong(self, graph, number, *values):
        for value in values:
            self.assertIs(check_number(graph, number, value), False)

    def test_any_value(self):
        graph = twins(2)
        right = number_paper(graph)
        (mark, rounds, maps, papers), end = right
        for value in STRANGE:
            self.assert_wrong(graph, 2, value, [value], [value, end], [right[0], value], [right[0], end, value])
            if value != {} or value.__class__ is not dict:
                self.assert_wrong(graph, 2, [(mark, rounds, maps, value), end])
            self.assert_wrong(graph, 2, [(value, rounds, maps, papers), end], [(mark, rounds, value, papers), end], [(mark, rounds, [value, *maps], papers), end],
                              [(mark, [value], maps, papers), end], [right[0], ("alone", [value])], [right[0], (value, end[1])])
            if value.__class__ is not list:
                self.assert_wrong(graph, 2, [(mark, value, maps, papers), end], [right[0], ("alone", value)])
        self.assert_wrong(graph, 2, tuple(right), [list(right[0]), end], [right[0], list(end)], [right[0]], [end], [], [end, right[0]], [*right, end],
                          [right[0], ("alone",)], [right[0], ("alone", end[1], 1)], [right[0], ("bags", end[1])], [right[0][:3], end], [(*right[0], 1), end])

    def test_one_object(self):
        graph = Graph("a", {"a": ("set", ())})
        stay = {"a": "a"}
        self.assert_right(graph, 1, [("alone", [])], [("alone", [{"a": 5}])], [("alone", [{"a": 5}, {"a": 0}])], [("a", [], [stay], {}), ("alone", [])],
                          [("a", [{"a": 0}], [stay], {}), ("a", [], [stay], {}), ("alone", [{"a": HUGE}])])
        self.assert_wrong(graph, 1, [("alone", [{"a": -1}])], [("alone", [{"a": True}])], [("alone", [{}])], [("alone", ())], [("a", [], [], {}), ("alone", [])],
                          [("a", [], [stay, stay], {}), ("alone", [])], [("b", [], [stay], {}), ("alone", [])], [("alone", [({"a": 0}, {"a": 0})])])
        self.assert_wrong(graph, 2, [("a", [], [stay, stay], {}), ("alone", [])])
        self.assert_wrong(twins(1), 1, [("alone", [])])

    def test_other_papers_that_show_it(self):
        graph = twins(3)
        stay = {mark: mark for mark in graph}

        def swap(mark, other):
            return {**stay, mark: other, other: mark}
        first = ("t1", [{"root": 3, "t0": 7, "t1": 7, "t2": 7}], [swap("t1", "t2"), stay, swap("t0", "t1")], {})
        second = ("t2", [{"root": 3, "t0": 7, "t1": 8, "t2": 7}, {"root": 0, "t0": 1, "t1": 2, "t2": 1}], [swap("t0", "t2"), stay], {})
        end = ("alone", [{"root": 0, "t0": 1, "t1": 2, "t2": 3}])
        self.assert_right(graph, 6, [first, second, end])
        # The root is one, and can be told as that first, or again between the others; so can t1.
        nothing = ("root", first[1], [stay], {})
        again = ("t1", second[1][1:], [stay], {})
        self.assert_right(graph, 6, [nothing, first, second, end], [first, nothing, again, second, nothing, end], [first, second, nothing, end])
        # Without rounds all others need a paper: those that no map takes t1 to are unlike it.
        papers = {"root": difference(graph, graph, ("t1",), ("root",))}
        self.assert_right(graph, 6, [(first[0], [], first[2], papers), second, end])
        for key in (None, 1, "t9", ("at", "t1"), "t2", "t1"):
            self.assert_wrong(graph, 6, [(first[0], [], first[2], {**papers, key: papers["root"]}), second, end],
                              [(first[0], [], first[2], {key: papers["root"]}), second, end])
        papers = {mark: difference(graph, graph, ("t1", "t2"), ("t1", mark)) for mark in ("root", "t1")}
        self.assert_right(graph, 6, [first, (second[0], [], second[2], papers), end])
        self.assert_wrong(graph, 6, [(first[0], [], first[2], {}), second, end], [first, (second[0], [], second[2], {}), end], [second, first, end],
                          [first, end], [first, second, ("alone", second[1])], [first, second, ("alone", [])],
                          [(first[0], first[1], first[2][:2], {}), second, end], [(first[0], first[1], first[2][::2], {}), second, end],
                          [(first[0], first[1], first[2] + [stay], {}), second, end], [(first[0], first[1], first[2], {"root": papers["root"]}), second, end])
        # Maps of the second level must take t1 to itself.
        self.assert_wrong(graph, 6, [first, (second[0], second[1], [{**stay, "t0": "t2", "t1": "t0", "t2": "t1"}, stay], {}), end])
        self.assert_wrong(graph, 4, [(first[0], first[1], first[2][1:], {}), second, end])
        self.assert_wrong(graph, 3, [first, ("t2", second[1], [stay], {}), end])
        # Rounds that part alike objects.
        self.assert_wrong(graph, 6, [(first[0], end[1], first[2], {}), second, end], [first, (second[0], end[1], second[2], {}), end],
                          [("t1", [{"root": 3, "t0": 7, "t1": 8, "t2": 7}], [stay], {}), second, end])

    def test_any_right_paper(self):
        for chance, graph in random_graphs(6, 40):
            paper = oracle.any_count(chance, graph)
            number = len(oracle.all_maps(graph, graph))
            self.assertEqual(oracle.shown_number(graph, paper), number)
            self.assert_right(graph, number, paper)

    def test_bent_papers(self):
        told = []
        for chance, graph in random_graphs(7, 60):
            number = len(oracle.all_maps(graph, graph))
            paper = oracle.any_count(chance, graph)
            for _ in range(10):
                value = oracle.bent(chance, paper, graph.marks)
                shown = oracle.shown_number(graph, value)
                told.append(shown is not None)
                for wanted in (number, number // 2, 2 * number, 1):
                    self.assertIs(check_number(graph, wanted, value), shown == wanted, value)
        self.assertGreater(min(told.count(True), told.count(False)), 50)
