"""Looking alike, rounds and stable classes (8)."""

import itertools

from samebytes.colours import classes, look_alike, rounds
from samebytes.graphs import Graph
from samebytes.objects import references
from tests import oracle
from tests.helpers import HUGE, Case, at, chain_graph


def under(thing, root=("list", (at("a"), at("b"), at("c"), at("d")))):
    """A graph in which b, c and d are empty lists."""
    lists = {mark: ("list", ()) for mark in ("b", "c", "d")}
    return Graph("r", {"r": root, "a": thing, **lists})


def referring(*things):
    """A graph with objects x0, x1 and so on that refer to t, u or v; these are empty lists."""
    marks = [f"x{index}" for index in range(len(things))]
    lists = {mark: ("list", ()) for mark in ("t", "u", "v")}
    root = ("list", tuple(at(mark) for mark in [*marks, "t", "u", "v"]))
    return Graph("r", {"r": root, **dict(zip(marks, things)), **lists})


def tied(thing, further):
    """A graph with an object x to which others refer in many ways, and so many further objects n0, n1 and so on."""
    sources = {"fa": ("record", "p", (("a", at("x")),)), "fb": ("record", "p", (("b", at("x")),)), "ia": ("list", (at("x"),)), "ib": ("list", (0, at("x"))),
               "me": ("set", (at("x"),)), "ka": ("dict", ((at("x"), 1),)), "kb": ("dict", ((at("x"), 2),)), "wa": ("dict", ((1, at("x")),)),
               "wb": ("dict", ((2, at("x")),)), "kr": ("dict", ((at("x"), at("kw")),)), "wr": ("dict", ((at("wk"), at("x")),))}
    ends = {mark: ("list", ()) for mark in ("kw", "wk", *references(thing), *(f"n{index}" for index in range(further)))}
    near = [mark for mark in ends if mark[0] != "n"]
    root = ("set", (at("more"), *map(at, sources), *map(at, near)))
    return Graph("r", {"r": root, "x": thing, "more": ("set", tuple(at(mark) for mark in ends if mark[0] == "n")), **sources, **ends})


def numbers(graph, **told):
    return {**dict.fromkeys(graph, 0), **told}


class TestLookAlike(Case):

    def assert_own(self, alike, thing, other, first, second):
        """Assert of two objects, by numbers for what they refer to, whether they look alike."""
        one, further = under(thing), under(other)
        self.assertIs(look_alike(one, numbers(one, **first), "a", further, numbers(further, **second), "a"), alike)
        self.assertIs(look_alike(further, numbers(further, **second), "a", one, numbers(one, **first), "a"), alike)

    def test_plain_parts(self):
        things = [("record", "pair", ()), ("record", "pairs", ()), ("record", "pair", (("left", 1),)), ("record", "pair", (("right", 1),)),
                  ("record", "pair", (("left", 2),)), ("record", "pair", (("left", "1"),)), ("record", "pair", (("left", 1), ("right", 1))),
                  ("list", ()), ("list", (1,)), ("list", (1, 1)), ("list", ("1",)), ("list", (1, 2)), ("list", (2, 1)), ("set", ()), ("set", (1,)),
                  ("set", (1, 2)), ("set", ("1",)), ("dict", ()), ("dict", ((1, 1),)), ("dict", ((1, 2),)), ("dict", ((2, 1),)),
                  ("dict", (("1", 1),)), ("dict", ((1, 1), (2, 1))), ("dict", ((1, 2), (2, 1)))]
        for (index, thing), (place, other) in itertools.product(enumerate(things), repeat=2):
            self.assert_own(index == place, thing, other, {}, {})
        self.assert_own(True, ("set", (1, 2)), ("set", (2, 1)), {}, {})
        self.assert_own(True, ("dict", ((1, 2), (2, 1))), ("dict", ((2, 1), (1, 2))), {}, {})

    def test_references_by_their_numbers(self):
        for make in (lambda *marks: ("record", "p", tuple(zip(("left", "right"), map(at, marks)))), lambda *marks: ("list", tuple(map(at, marks)))):
            self.assert_own(True, make("b", "c"), make("b", "c"), {"b": 1, "c": 2}, {"b": 1, "c": 2})
            self.assert_own(True, make("b", "c"), make("c", "b"), {"b": 1, "c": 2}, {"c": 1, "b": 2})
            self.assert_own(False, make("b", "c"), make("c", "b"), {"b": 1, "c": 2}, {"b": 1, "c": 2})
            self.assert_own(False, make("b", "c"), make("b", "c"), {"b": 1, "c": 2}, {"b": 1, "c": 3})
            self.assert_own(True, make("b", "c"), make("b", "b"), {"b": 1, "c": 1}, {"b": 1})
        self.assert_own(False, ("list", (at("b"),)), ("list", (0,)), {}, {})
        self.assert_own(False, ("set", (at("b"),)), ("set", (0,)), {}, {})
        self.assert_own(False, ("dict", ((at("b"), 0),)), ("dict", ((0, at("b")),)), {}, {})

    def test_members_by_their_numbers(self):
        three = ("set", (at("b"), at("c"), at("d")))
        self.assert_own(True, three, three, {"b": 1, "c": 1, "d": 2}, {"b": 2, "c": 1, "d": 1})
        self.assert_own(False, three, three, {"b": 1, "c": 1, "d": 2}, {"b": 2, "c": 2, "d": 1})
        self.assert_own(False, three, ("set", (at("b"), at("c"))), {}, {})
        self.assert_own(False, three, ("set", (at("b"), at("c"), 0)), {}, {})
        self.assert_own(True, ("set", (at("b"), 1)), ("set", (1, at("c"))), {"b": 1}, {"c": 1})

    def test_entries_by_their_numbers(self):
        both = ("dict", ((at("b"), at("c")), (at("c"), at("b"))))
        self.assert_own(True, both, both, {"b": 1, "c": 2}, {"b": 2, "c": 1})
        self.assert_own(False, both, ("dict", ((at("b"), at("b")), (at("c"), at("c")))), {"b": 1, "c": 2}, {"b": 1, "c": 2})
        self.assert_own(False, ("dict", ((at("b"), 1), (at("c"), 2))), ("dict", ((at("b"), 1), (at("c"), 2))), {"b": 1}, {"c": 1})
        self.assert_own(True, ("dict", ((at("b"), 1), (at("c"), 2))), ("dict", ((at("b"), 2), (at("c"), 1))), {"b": 1}, {"c": 1})
        self.assert_own(False, ("dict", ((1, at("b")), (2, at("c")))), ("dict", ((1, at("b")), (2, at("c")))), {"b": 1}, {"c": 1})
        self.assert_own(False, ("dict", ((at("b"), at("c")),)), ("dict", ((at("c"), at("b")),)), {"b": 1}, {"b": 1})
        self.assert_own(True, ("dict", ((at("b"), at("b")),)), ("dict", ((at("b"), at("c")),)), {"b": 1}, {"b": 1, "c": 1})

    def assert_referred(self, alike, things, others, first, second, targets=("t", "t")):
        one, further = referring(*things), referring(*others)
        mark, target = targets
        given = (one, numbers(one, **first), mark, further, numbers(further, **second), target)
        self.assertIs(look_alike(*given), alike)
        self.assertIs(look_alike(*given[3:], *given[:3]), alike)

    def test_ways_to_be_referred_to(self):
        ways = [[], [("record", "p", (("left", at("t")),))], [("record", "p", (("right", at("t")),))],
                [("list", (at("t"),))], [("list", (0, at("t")))], [("list", (at("t"), at("t")))], [("set", (at("t"),))],
                [("dict", ((at("t"), 1),))], [("dict", ((at("t"), 2),))], [("dict", ((at("t"), "1"),))], [("dict", ((1, at("t")),))],
                [("dict", ((2, at("t")),))], [("dict", ((at("t"), at("u")),))], [("dict", ((at("u"), at("t")),))], [("dict", ((at("t"), at("t")),))],
                [("dict", ((1, at("t")), (2, at("t"))))], [("set", (at("t"),)), ("set", (at("t"),))],
                [("set", (at("t"),)), ("list", (at("t"),))]]
        for (index, things), (place, others) in itertools.product(enumerate(ways), repeat=2):
            # The root refers to t as its last object but two, at an index that hangs on the number of the others.
            if len(things) == len(others):
                self.assert_referred(index == place, things, others, {}, {})

    def test_numbers_of_what_refers(self):
        for thing in (("record", "p", (("left", at("t")),)), ("list", (at("t"),)), ("set", (at("t"),)), ("dict", ((at("t"), 1),)),
                      ("dict", ((1, at("t")),)), ("dict", ((at("t"), at("u")),)), ("dict", ((at("u"), at("t")),))):
            self.assert_referred(True, [thing, thing], [thing, thing], {"x0": 1, "x1": 2}, {"x0": 2, "x1": 1})
            self.assert_referred(False, [thing, thing], [thing, thing], {"x0": 1, "x1": 2}, {"x0": 1, "x1": 1})
            self.assert_referred(False, [thing, thing], [thing, ("list", ())], {}, {})

    def test_what_refers_is_told_by_its_number_alone(self):
        self.assert_referred(True, [("record", "p", (("left", at("t")),))], [("record", "q", (("left", at("t")), ("up", 5)))], {}, {})
        self.assert_referred(True, [("list", (at("t"),))], [("list", (at("t"), 1, at("u")))], {}, {})
        self.assert_referred(True, [("set", (at("t"),))], [("set", (at("t"), 1, at("u")))], {}, {})
        self.assert_referred(True, [("dict", ((at("t"), 1),))], [("dict", ((at("t"), 1), (at("u"), 2)))], {}, {})

    def test_keys_beside_worths_by_their_numbers(self):
        key, worth = [("dict", ((at("t"), at("u")),))], [("dict", ((at("u"), at("t")),))]
        for things, others in ((key, [("dict", ((at("t"), at("v")),))]), (worth, [("dict", ((at("v"), at("t")),))])):
            self.assert_referred(True, things, others, {"u": 4}, {"v": 4})
            self.assert_referred(False, things, others, {"u": 4}, {"v": 3})
            self.assert_referred(False, things, others, {"u": 4}, {"u": 4})

    def test_no_two_ways_are_mixed_up(self):
        things = [("record", "q", (("a", at("oa")), ("b", at("ob")))), ("list", (at("oa"), at("ob"))), ("set", (at("oa"),)),
                  ("dict", ((1, at("oa")), (2, at("ob")), (at("oc"), 1), (at("od"), 2), (at("ok"), at("ow"))))]
        beside = {"kr": "kw", "kw": "kr", "wr": "wk", "wk": "wr", "ok": "ow", "ow": "ok"}
        for thing in things:
            one, other = tied(thing, 20), tied(thing, 0)
            places = {f"n{index}": index for index in range(20)}
            ends = sorted({mark for mark in other if mark not in ("r", "x", "more")})
            for first, second in itertools.combinations(ends, 2):
                for number in range(20 if first in beside or second in beside else 1):
                    told = {beside[mark]: number for mark in (first, second) if mark in beside}
                    here, there = {**told, first: 1, second: 2}, {**told, first: 2, second: 1}
                    self.assertIs(look_alike(one, numbers(one, **places, **here), "x", other, numbers(other, **there), "x"), False)
            self.assertIs(look_alike(one, numbers(one, **places), "x", other, numbers(other), "x"), True)

    def test_own_numbers_do_not_count(self):
        self.assert_referred(True, [], [], {"t": 1}, {"t": 2})
        graph = chain_graph(3)
        self.assertIs(look_alike(graph, {"a0": 0, "a1": 1, "a2": 2}, "a1", graph, {"a0": 0, "a1": 5, "a2": 2}, "a1"), True)

    def test_the_root_is_no_other_way(self):
        ring = Graph("a", {"a": ("list", (at("b"),)), "b": ("list", (at("a"),))})
        same = {"a": 0, "b": 0}
        self.assertIs(look_alike(ring, same, "a", ring, same, "b"), True)
        self.assertIs(look_alike(ring, {"a": 0, "b": 1}, "a", ring, {"a": 0, "b": 1}, "b"), False)

    def test_an_object_that_refers_to_itself(self):
        own = Graph("a", {"a": ("list", (at("a"), at("b"))), "b": ("list", (at("a"), at("b")))})
        self.assertIs(look_alike(own, {"a": 0, "b": 0}, "a", own, {"a": 0, "b": 0}, "b"), False)
        self.assertIs(look_alike(own, {"a": 0, "b": 1}, "a", own, {"a": 0, "b": 1}, "a"), True)
        self.assertIs(look_alike(own, {"a": 0, "b": 1}, "a", own, {"a": 1, "b": 0}, "a"), False)

    def test_great_numbers(self):
        graph = chain_graph(2)
        self.assertIs(look_alike(graph, {"a0": 0, "a1": HUGE}, "a0", graph, {"a0": 1, "a1": HUGE}, "a0"), True)
        self.assertIs(look_alike(graph, {"a0": 0, "a1": HUGE}, "a0", graph, {"a0": 1, "a1": HUGE + 1}, "a0"), False)

    def test_against_the_words_of_the_document(self):
        chance = oracle.chances(8)
        told = []
        for _ in range(60):
            one = oracle.random_graph(chance, chance.randrange(1, 7))
            other = oracle.shuffled(chance, one) if chance.random() < 0.5 else oracle.random_graph(chance, chance.randrange(1, 7))
            first = {mark: chance.randrange(2) for mark in one}
            second = {mark: chance.randrange(2) for mark in other}
            for mark, target in itertools.product(one, other):
                told.append(look_alike(one, first, mark, other, second, target))
                self.assertIs(told[-1], oracle.looks_alike(one, first, mark, other, second, target))
        self.assertGreater(told.count(True), 20)


class TestRounds(Case):

    def assert_rounds(self, one, other, *marked):
        """Assert that the rounds of two graphs part them as the document says."""
        told = rounds(one, other, *marked)
        wanted = oracle.joint_rounds(one, other, *marked)
        parted = []
        for first, second in told:
            self.assertTrue(oracle.is_right_colouring(one, first) and oracle.is_right_colouring(other, second))
            members = {}
            for side, colouring in enumerate((first, second)):
                for mark, number in colouring.items():
                    members.setdefault(number, []).append((side, mark))
            parted.append(sorted(sorted(told) for told in members.values()))
        self.assertEqual(parted, wanted)
        return told

    def test_the_number_of_rounds(self):
        for number in (1, 2, 3, 4, 5, 9, 10):
            graph = chain_graph(number)
            # Each round parts one more from either end.
            self.assertEqual(len(self.assert_rounds(graph, graph)), max(1, number // 2))

    def test_the_first_round(self):
        empty = Graph("a", {"a": ("list", ())})
        (first, second), = self.assert_rounds(empty, empty)
        self.assertEqual(first["a"], second["a"])
        (first, second), = self.assert_rounds(empty, Graph("a", {"a": ("set", ())}))
        self.assertNotEqual(first["a"], second["a"])
        ring = Graph("a", {"a": ("list", (at("b"),)), "b": ("list", (at("a"),))})
        (first, second), = self.assert_rounds(ring, ring)
        self.assertEqual((first["a"] == first["b"], first == second), (False, True))

    def test_a_graph_with_one_more(self):
        self.assert_rounds(chain_graph(5), chain_graph(6))
        self.assert_rounds(chain_graph(1), chain_graph(8))

    def test_marked(self):
        graph = Graph("a", {"a": ("set", (at("b"), at("c"), at("d"))), "b": ("list", ()), "c": ("list", ()), "d": ("list", ())})
        for marked, others in ((("b",), ("c",)), (("b", "c"), ("c", "b")), (("b", "b"), ("c", "c")), (("b", "b"), ("c", "d")), (("a",), ("a",)),
                               (("a",), ("b",)), (("b", "c", "b"), ("c", "b", "c")), (("b", "c", "b"), ("c", "b", "b"))):
            told = self.assert_rounds(graph, graph, marked, others)
            self.assertEqual(told[-1][0][marked[0]] == told[-1][1][others[0]], oracle.spots(graph, marked, marked[0])
                             == oracle.spots(graph, others, others[0]))

    def test_against_the_words_of_the_document(self):
        chance = oracle.chances(9)
        for _ in range(120):
            kinds = chance.choice((("record", "list", "set", "dict"), ("set",), ("dict",), ("list", "set")))
            one = oracle.random_graph(chance, chance.randrange(1, 9), kinds)
            other = oracle.shuffled(chance, one) if chance.random() < 0.4 else oracle.random_graph(chance, chance.randrange(1, 9), kinds)
            marked = tuple(chance.choice(one.marks) for _ in range(chance.randrange(3)))
            self.assert_rounds(one, other, marked, tuple(chance.choice(other.marks) for _ in marked))

    def test_maps_keep_the_numbers(self):
        chance = oracle.chances(10)
        for _ in range(40):
            one = oracle.random_graph(chance, 5, ("set", "list"))
            other = oracle.shuffled(chance, one)
            for images in oracle.all_maps(one, other):
                for first, second in rounds(one, other):
                    self.assertEqual([first[mark] for mark in one], [second[images[mark]] for mark in one])

    def test_other_marks_and_orders_change_nothing(self):
        chance = oracle.chances(11)
        for _ in range(30):
            one = oracle.random_graph(chance, 7)
            other = oracle.shuffled(chance, one)
            parts = [sorted(len(marks) for marks in classes(graph)) for graph in (one, other)]
            self.assertEqual(*parts)
            self.assertEqual(len(rounds(one, one)), len(rounds(one, other)))


class TestClasses(Case):

    def test_classes(self):
        self.assert_exactly(classes(Graph("a", {"a": ("list", ())})), [["a"]])
        ring = Graph("b", {"a": ("list", (at("c"),)), "b": ("set", (at("a"), at("c"), at("d"))), "c": ("list", (at("d"),)), "d": ("list", (at("a"),))})
        self.assert_exactly(classes(ring), [["a", "c", "d"], ["b"]])
        self.assert_exactly(classes(ring, ("c",)), [["a"], ["b"], ["c"], ["d"]])
        self.assert_exactly(classes(ring, ("b", "b")), [["a", "c", "d"], ["b"]])

    def test_their_order(self):
        things = {f"x{index}": ("list", (index % 3,)) for index in range(12)}
        graph = Graph("r", {"r": ("set", tuple(at(mark) for mark in things)), **things})
        self.assert_exactly(classes(graph), [["r"], ["x0", "x3", "x6", "x9"], ["x1", "x10", "x4", "x7"], ["x11", "x2", "x5", "x8"]])
        self.assert_exactly(classes(graph, ("x6",)), [["r"], ["x0", "x3", "x9"], ["x1", "x10", "x4", "x7"], ["x11", "x2", "x5", "x8"], ["x6"]])

    def test_against_the_words_of_the_document(self):
        chance = oracle.chances(13)
        for _ in range(80):
            graph = oracle.random_graph(chance, chance.randrange(1, 9), chance.choice((("set",), ("record", "list", "set", "dict"))))
            marked = tuple(chance.choice(graph.marks) for _ in range(chance.randrange(3)))
            last = oracle.joint_rounds(graph, graph, marked, marked)[-1]
            self.assert_exactly(classes(graph, marked), sorted(sorted(mark for side, mark in told if side == 0) for told in last))
