"""Papers of difference (9): those that are made, and the checker."""

from samebytes.errors import GraphError
from samebytes.graphs import Graph
from samebytes.papers import check_difference, difference, sameness
from tests import oracle
from tests.helpers import HUGE, STRANGE, Case, at, chain_graph, rings, twins

LIST = Graph("a", {"a": ("list", (1,))})
FURTHER = Graph("b", {"b": ("list", (2,))})
THREES, SIX = rings([3, 3], False, "list"), rings([6], False, "list")


def shapes():
    """Pairs of graphs that no round parts."""
    return [(THREES, SIX), (rings([3, 3]), rings([6])), (rings([3, 3], False, "dict"), rings([6], False, "dict")),
            (rings([2, 2], False), rings([4], False)), (rings([3, 3, 4]), rings([6, 4])), (rings([4, 4]), rings([3, 5])),
            (rings([6] * 4), rings([6] * 3 + [3, 3])), (rings([4, 4], True, "dict"), rings([8], True, "dict"))]


def rook():
    return {f"{row}{column}": [f"{r}{c}" for r in "abcd" for c in "0123" if (r == row) != (c == column)] for row in "abcd" for column in "0123"}


def shrikhande():
    def near(row, column):
        return [("abcd"[(row + down) % 4] + str((column + right) % 4))
                for down, right in ((0, 1), (0, 3), (1, 0), (3, 0), (1, 1), (3, 3))]
    return {"abcd"[row] + str(column): near(row, column) for row in range(4) for column in range(4)}


def of_neighbours(near):
    things = {mark: ("set", tuple(at(other) for other in others)) for mark, others in near.items()}
    return Graph("root", {"root": ("set", tuple(at(mark) for mark in things)), **things})


def words_in(paper):
    """All words of the papers and branches in a paper."""
    if paper[0] != "choose":
        return [paper[0]]
    return [paper[0]] + [word for branch in paper[3].values() for word in words_in(branch)]


class TestDifference(Case):

    def assert_paper(self, one, other, *marked):
        paper = difference(one, other, *marked)
        self.assertIsNone(sameness(one, other, *marked))
        self.assertIs(check_difference(one, other, paper, *marked), True)
        return paper

    def test_graphs_that_the_rounds_part(self):
        self.assert_exactly(difference(LIST, FURTHER), ("bags", [({"a": 0}, {"b": 1})]))
        for one, other in ((chain_graph(5), chain_graph(6)), (twins(3), twins(4)), (rings([3, 3]), rings([3, 4])),
                           (chain_graph(9), chain_graph(8)), (twins(3), twins(3, ("set", ())))):
            for first, second in ((one, other), (other, one)):
                paper = self.assert_paper(first, second)
                self.assertEqual(paper[0], "bags")
                self.assertTrue(oracle.is_paper(first, second, paper))

    def test_graphs_that_the_rounds_do_not_part(self):
        for one, other in shapes():
            for first, second in ((one, other), (other, one)):
                paper = self.assert_paper(first, second)
                self.assertEqual(paper[0], "choose")
                self.assertIn("like", words_in(paper))
                if len(first) < 12:
                    self.assertTrue(oracle.is_paper(first, second, paper))

    def test_strongly_regular_graphs(self):
        one, other = of_neighbours(rook()), of_neighbours(shrikhande())
        self.assert_paper(one, other)
        self.assert_paper(other, one)
        self.assertIsNone(difference(other, oracle.shuffled(oracle.chances(1), other)))

    def test_none_if_a_map_keeps_them(self):
        chance = oracle.chances(2)
        for graph in [one for pair in shapes() for one in pair] + [twins(30), chain_graph(60)]:
            self.assertIsNone(difference(graph, oracle.shuffled(chance, graph)))

    def test_marked(self):
        ring = rings([6])
        for marked, others in ((("a0", "a2"), ("a0", "a3")), (("a0", "a0"), ("a0", "a1")), (("a1", "a0"), ("a0", "a0")), (("a0",), ("root",))):
            paper = self.assert_paper(ring, ring, marked, others)
            self.assertTrue(oracle.is_paper(ring, ring, paper, marked, others))
            self.assertIs(check_difference(ring, ring, paper, marked, marked), False)
            self.assertIs(check_difference(ring, ring, paper), False)
        hidden = rings([6, 3, 3])
        paper = self.assert_paper(hidden, hidden, ("a0",), ("b0",))
        self.assertIsNone(difference(hidden, hidden, ("b0",), ("c0",)))
        two = rings([4, 4, 3, 5])
        self.assertIs(check_difference(two, two, self.assert_paper(two, two, ("a0", "b0"), ("a0", "a2")), ("a0", "b0"), ("a0", "a2")), True)

    def test_against_all_maps(self):
        chance = oracle.chances(3)
        told = []
        for index in range(200):
            kinds = chance.choice((("record", "list", "set", "dict"), ("set",), ("dict",), ("list", "set")))
            one = oracle.random_graph(chance, chance.randrange(1, 6), kinds)
            other = oracle.shuffled(chance, one) if index % 2 else oracle.random_graph(chance, chance.randrange(1, 6), kinds)
            marked = tuple(chance.choice(one.marks) for _ in range(chance.randrange(3)))
            others = tuple(chance.choice(other.marks) for _ in marked)
            paper = difference(one, other, marked, others)
            told.append(paper is None)
            self.assertIs(paper is None, bool(oracle.all_maps(one, other, marked, others)))
            self.assertTrue(paper is None or oracle.is_paper(one, other, paper, marked, others))
        self.assertGreater(min(told.count(True), told.count(False)), 40)

    def test_deep_papers(self):
        one, other = rings([3] * 8 + [6]), rings([3] * 10)
        self.assert_paper(one, other)
        pairs = {f"p{index}": ("list", (index // 2,)) for index in range(24)}
        for_both = ("set", tuple(at(mark) for mark in pairs))
        big = [Graph("top", {"top": ("list", (at("root"), at("more"))), "more": for_both, **pairs, **graph.objects}) for graph in shapes()[6]]
        self.assert_paper(*big)

    def test_other_marks_and_orders_change_nothing(self):
        chance = oracle.chances(4)
        for one, other in shapes()[:5]:
            first, second = oracle.shuffled(chance, one), oracle.shuffled(chance, other)
            self.assertEqual(self.assert_paper(first, second)[0], "choose")
            self.assertIsNone(difference(first, one))
            self.assertIs(check_difference(first, second, difference(one, other)), False)


class TestCheckDifference(Case):

    def assert_right(self, one, other, *values):
        for value in values:
            self.assertIs(check_difference(one, other, value), True)

    def assert_wrong(self, one, other, *values):
        for value in values:
            with self.subTest(value.__class__):
                self.assertIs(check_difference(one, other, value), False)

    def test_any_value(self):
        self.assert_wrong(LIST, FURTHER, *STRANGE, "bags", ("bags",), ("choose",), ("like",), LIST)
        for value in STRANGE:
            self.assert_wrong(LIST, FURTHER, ("bags", value), ("bags", [value]), ("bags", [(value, {"b": 1})]), ("bags", [({"a": 0}, value)]),
                              ("bags", [({"a": value}, {"b": 1})]) if value is not HUGE else None,
                              ("bags", [({"a": 0}, {"b": 1})], value), (value, [({"a": 0}, {"b": 1})]), ("choose", value, "a", {}),
                              ("choose", [], value, {}), ("choose", [], "a", value), ("choose", [], "a", {"b": value}))

    def test_bags(self):
        self.assert_right(LIST, FURTHER, ("bags", [({"a": 0}, {"b": 1})]), ("bags", [({"a": 7}, {"b": 0})]), ("bags", [({"a": HUGE}, {"b": 0})]),
                          ("bags", [({"a": 0}, {"b": 0}), ({"a": 0}, {"b": 1})]), ("bags", [({"a": 1}, {"b": 0}), ({"a": 0}, {"b": 1})]),
                          ("bags", [({"a": 0}, {"b": 1})] * 3))
        self.assert_wrong(LIST, FURTHER, ("bags", []), ("bags", [({"a": 0}, {"b": 0})]), ("bags", [({"a": 0}, {"b": 1}), ({"a": 0}, {"b": 0})]),
                          ("bags", [({"a": 0}, {"b": True})]), ("bags", [({"a": False}, {"b": 1})]), ("bags", [({"a": 0}, {"b": -1})]),
                          ("bags", [({"a": 0}, {"b": 1.0})]), ("bags", [({"a": 0}, {"b": "1"})]), ("bags", [({"a": 0}, {"b": None})]),
                          ("bags", [({"a": 0}, {"a": 1})]), ("bags", [({"b": 0}, {"a": 1})]), ("bags", [({"a": 0, "b": 0}, {"b": 1})]),
                          ("bags", [({"a": 0}, {})]), ("bags", [({"a": 0}, {"b": 1, 1: 1})]), ("bags", [({}, {})]),
                          ("bags", (({"a": 0}, {"b": 1}),)), ("bags", [[{"a": 0}, {"b": 1}]]), ("bags", [({"a": 0}, {"b": 1}, {})]),
                          ("bags", [({"a": 0},)]), ["bags", [({"a": 0}, {"b": 1})]], ("bag", [({"a": 0}, {"b": 1})]), ("bags", {}),
                          ("bags", {0: ({"a": 0}, {"b": 1})}), ("bags", [({"a": 0}, {"b": 1})], "a", {}), ("like", "b", {"b": "b"}))

    def test_objects_that_look_alike_need_one_number(self):
        three, four = twins(3), twins(4)
        right = ({"root": 0, **dict.fromkeys(["t0", "t1", "t2"], 1)}, {"root": 2, **dict.fromkeys(["t0", "t1", "t2", "t3"], 1)})
        self.assert_right(three, four, ("bags", [right]), ("bags", [({**right[0], "root": 1}, right[1])]),
                          ("bags", [(dict.fromkeys(three, 0), dict.fromkeys(four, 0))]), ("bags", [right, right]))
        for mark in ("t0", "t1", "t2"):
            self.assert_wrong(three, four, ("bags", [({**right[0], mark: 3}, right[1])]), ("bags", [(right[0], {**right[1], mark: 3})]),
                              ("bags", [right, ({**right[0], mark: 3}, right[1])]), ("bags", [({**right[0], mark: 0}, right[1])]))
        # What one round leaves together may be parted by the next one, if it does not look alike by the one before.
        one, other = chain_graph(4), chain_graph(5)
        first = ({"a0": 0, "a1": 1, "a2": 1, "a3": 2}, {"a0": 0, "a1": 1, "a2": 1, "a3": 1, "a4": 2})
        second = ({"a0": 0, "a1": 3, "a2": 1, "a3": 2}, {"a0": 0, "a1": 3, "a2": 4, "a3": 1, "a4": 2})
        self.assert_right(one, other, ("bags", [first]), ("bags", [first, second]))
        self.assert_wrong(one, other, ("bags", [second]), ("bags", [second, first]), ("bags", [first, ({**second[0], "a1": 4}, second[1])]),
                          ("bags", [({**first[0], "a1": 3}, {**first[1], "a1": 3}), second]))

    def test_choose(self):
        # Nothing is asked of the last pair, and nothing of the rounds but that they are right.
        bags = [({"a": 0}, {"b": 1})]
        self.assert_right(LIST, FURTHER, ("choose", bags, "a", {}), ("choose", [], "a", {"b": ("bags", bags)}),
                          ("choose", [({"a": 4}, {"b": 4})], "a", {"b": ("choose", [], "a", {"b": ("choose", bags, "a", {})})}))
        self.assert_wrong(LIST, FURTHER, ("choose", bags, "a", {"b": ("bags", bags)}), ("choose", [], "a", {}), ("choose", [], "b", {"b": ("bags", bags)}),
                          ("choose", [], "a", {"a": ("bags", bags)}), ("choose", [], "a", {"b": ("bags", [])}), ("choose", [], "a", {"b": ("like", "b", {"b": "b"})}),
                          ("choose", [], "a", [("b", ("bags", bags))]), ("choose", "a", {"b": ("bags", bags)}), ("choose", [], "a", {"b": ("bags", bags)}, 1),
                          ("choose", bags, "b", {}), ("choose", bags, ("at", "a"), {}), ("choose", (), "a", {"b": ("bags", bags)}))

    def paper_of_rings(self):
        paper = difference(THREES, SIX)
        key, = [key for key, branch in paper[3].items() if branch[0] != "like"]
        return paper, key

    def test_branches(self):
        paper, key = self.paper_of_rings()
        word, told, mark, branches = paper
        likes = [like for like in branches if like != key]
        self.assertEqual(len(likes), 5)
        self.assert_right(THREES, SIX, paper)
        for like in likes:
            without = {other: branch for other, branch in branches.items() if other != like}
            _, first, images = branches[like]
            self.assertEqual((first, images[key]), (key, like))
            wrong = [without, {**branches, "root": branches[like]}, {**without, like.upper(): branches[like]},
                     {**without, like: ("like", like, images)}, {**without, like: ("like", likes[likes[0] == like], images)},
                     {**without, like: ("like", "z", images)}, {**without, like: ("like", None, images)}, {**without, like: ["like", key, images]},
                     {**without, like: ("like", key)}, {**without, like: ("like", key, images, 1)}, {**without, like: ("bags", key, images)},
                     {**without, like: ("like", key, {**images, "root": like})}, {**without, like: ("like", key, {**images, "z": "z"})},
                     {**without, like: ("like", key, {one: other for other, one in images.items()})} if images[like] != key else without,
                     {**without, like: ("like", key, {other: other for other in images})}, {**without, like: ("like", key, list(images.items()))},
                     {**without, like: None}, {**without, like: ()}, {**without, like: ("like", [key], images)}]
            self.assert_wrong(THREES, SIX, *[(word, told, mark, value) for value in wrong])
        # All of them like one another, and no paper.
        images = {image: mark for mark, image in branches[likes[0]][2].items()}
        self.assert_wrong(THREES, SIX, (word, told, mark, {**branches, key: ("like", likes[0], images)}))
        # What is like the root, which is no key, or like one that is like another one.
        stay = {other: other for other in SIX}
        self.assert_wrong(THREES, SIX, (word, told, mark, {**branches, likes[0]: ("like", "root", {**stay, "root": likes[0], likes[0]: "root"})}),
                          (word, told, mark, {**branches, likes[0]: ("like", "root", stay)}), (word, told, mark, {**branches, None: branches[key]}),
                          (word, told, mark, {**branches, 1: branches[key]}), (word, told, mark, {**branches, ("at", key): branches[key]}))
        first, second = likes[:2]
        images = {branches[first][2][other]: branches[second][2][other] for other in SIX}
        self.assertEqual(images[first], second)
        self.assert_wrong(THREES, SIX, (word, told, mark, {**branches, second: ("like", first, images)}))

    def test_each_branch_a_paper_of_its_own(self):
        paper, key = self.paper_of_rings()
        word, told, mark, branches = paper
        own = {other: difference(THREES, SIX, (mark,), (other,)) for other in branches}
        self.assert_right(THREES, SIX, (word, told, mark, own), (word, told[:1], mark, own), (word, told, mark, {**own, key: branches[key]}))
        # Without rounds all objects are keys, the root too.
        everything = {**own, "root": difference(THREES, SIX, (mark,), ("root",))}
        self.assert_right(THREES, SIX, (word, [], mark, everything))
        self.assert_wrong(THREES, SIX, (word, [], mark, own), (word, told, mark, everything), (word, told, "root", own))
        exchanged = {key: own[other] for key, other in zip(own, list(own)[1:] + list(own)[:1])}
        self.assert_wrong(THREES, SIX, (word, told, mark, exchanged))
        other_mark = "b1"
        self.assert_right(THREES, SIX, (word, told, other_mark, {other: difference(THREES, SIX, (other_mark,), (other,)) for other in branches}))
        self.assert_wrong(THREES, SIX, (word, told, other_mark, own))

    def test_maps_must_keep_what_is_marked(self):
        one, other = rings([6] * 3), rings([6, 6, 3, 3])
        paper = difference(one, other)
        spots = [path for path, part in oracle.parts_of(paper) if isinstance(part, tuple) and part[0] == "like" and len(path) > 4]
        self.assertTrue(spots)
        for path in spots[::7]:
            part = [told for place, told in oracle.parts_of(paper) if place == path][0]
            bent = {mark: part[2][image] for mark, image in part[2].items()}
            value = oracle.put(paper, path, ("like", part[1], bent))
            self.assertIs(check_difference(one, other, value), oracle.is_paper(one, other, value))

    def test_any_right_paper(self):
        chance = oracle.chances(5)
        for one, other in shapes()[:4] * 3:
            paper = oracle.any_paper(chance, one, other)
            self.assertTrue(oracle.is_paper(one, other, paper))
            self.assert_right(one, other, paper)

    def test_bent_papers(self):
        chance = oracle.chances(6)
        told = []
        for _ in range(60):
            one, other = chance.choice(shapes()[:4] + [(LIST, FURTHER), (chain_graph(3), chain_graph(4)), (twins(3), rings([3]))])
            paper = oracle.any_paper(chance, one, other)
            for _ in range(10):
                value = oracle.bent(chance, paper, one.marks + other.marks)
                wanted = oracle.is_paper(one, other, value)
                told.append(wanted)
                self.assertIs(check_difference(one, other, value), wanted, value)
        self.assertGreater(min(told.count(True), told.count(False)), 50)

    def test_no_paper_for_graphs_that_a_map_keeps(self):
        chance = oracle.chances(7)
        for one, other in shapes()[:4]:
            for _ in range(4):
                paper = oracle.any_paper(chance, one, other)
                self.assertIs(check_difference(one, one, paper), False)
                self.assertIs(check_difference(other, other, paper), False)

    def test_a_checker_changes_nothing(self):
        paper = difference(*shapes()[0])
        shown = repr(paper)
        self.assert_right(*shapes()[0], paper)
        self.assertEqual(repr(paper), shown)
        self.assertRaises(GraphError, check_difference, THREES, None, paper)
