"""Merges of two graphs that come from a base (17), clashes, papers, and the checker."""

import copy

from samebytes.errors import BadArgument, Clash, GraphError, LimitExceeded
from samebytes.graphs import Graph
from samebytes.merges import check_merge, clashes, merge
from tests import oracle
from tests.helpers import STRANGE, Case, at, chain_graph
from tests.plain import a_graph, plain_merge, random_change, rooted
from tests.test_arguments import containers, scribble

MARKS = ["m0", "m1", "m2", "m3", "n0", "n1"]
TURNED = {"one": "other", "other": "one", "both": "both"}
OBJECT, ITEMS, ROOT = ("object",), ("items",), ("root",)


def record(**fields):
    return ("record", "pair", tuple(fields.items()))


def lone(thing, **behind):
    """A graph whose root is this object."""
    return Graph("a", {"a": thing, **behind})


def field(name):
    return ("field", name)


def member(worth):
    return ("member", worth)


def key(worth):
    return ("key", worth)


def triples(seed, number):
    """Triples of graphs, one and other behind changes of the base."""
    chance = oracle.chances(seed)
    for _ in range(number):
        base = a_graph(chance, chance.randrange(1, 5), 4)
        base = base.renamed({mark: MARKS[index] for index, mark in enumerate(base)})
        most = chance.choice((1, 2, 3, 5, 6, 6))
        one, other = (random_change(chance, base, MARKS, most) for _ in range(2))
        if chance.random() < 0.15:
            other = random_change(chance, one, MARKS, 1)
        yield base, one, other


class MergeCase(Case):

    def assert_merge(self, base, one, other, graph, paper):
        """Assert a merge and its paper, and the same with the sides exchanged."""
        turned = {mark: {place: TURNED[word] for place, word in words.items()} for mark, words in paper.items()}
        for sides, wanted in (((one, other), paper), ((other, one), turned)):
            told, words = merge(base, *sides)
            self.assert_exactly((told.root, told.objects), (graph.root, graph.objects))
            self.assertEqual(words, wanted)
            self.assert_exactly(clashes(base, *sides), [])
            self.assertIs(check_merge(base, *sides, graph, wanted), True)
        self.assertIs(check_merge(base, other, one, graph, paper), paper == turned)

    def assert_clash(self, base, one, other, wanted):
        for sides in ((one, other), (other, one)):
            self.assert_exactly(clashes(base, *sides), wanted)
            with self.assertRaises(GraphError) as caught:
                merge(base, *sides)
            self.assertIs(caught.exception.__class__, Clash)
            self.assert_exactly(vars(caught.exception), {"clashes": wanted})
            self.assertIs(check_merge(base, *sides, base, {}), False)

    def assert_lone(self, base, one, other, thing, words, **behind):
        """The same as assert_merge, of graphs with one object each, and perhaps others in all of them."""
        paper = {"a": words, **{mark: {OBJECT: "both", ITEMS: "both"} for mark in behind}}
        self.assert_merge(*[lone(told, **behind) for told in (base, one, other, thing)], paper)


class TestPlaces(MergeCase):

    def test_fields(self):
        base = record(l=1, r=2)
        self.assert_lone(base, record(l=7, r=2), base, record(l=7, r=2), {OBJECT: "both", field("l"): "one", field("r"): "both"})
        self.assert_lone(base, record(l=7, r=2), record(l=1, r=8), record(l=7, r=8), {OBJECT: "both", field("l"): "one", field("r"): "other"})
        self.assert_lone(base, record(l=7, r=2), record(l=7, r=2), record(l=7, r=2), {OBJECT: "both", field("l"): "both", field("r"): "both"})
        self.assert_lone(base, record(l=1), base, record(l=1), {OBJECT: "both", field("l"): "both"})
        self.assert_lone(base, record(l=1), record(r=2), record(), {OBJECT: "both"})
        self.assert_lone(base, record(), record(), record(), {OBJECT: "both"})
        self.assert_lone(base, record(l=1, r=2, n=3), base, record(l=1, r=2, n=3), {OBJECT: "both", field("l"): "both", field("r"): "both", field("n"): "one"})
        self.assert_lone(base, record(l=1, r=2, n=3), record(r=2, m="x"), record(r=2, n=3, m="x"),
                         {OBJECT: "both", field("r"): "both", field("n"): "one", field("m"): "other"})
        self.assert_lone(base, record(l=1, r=2, n=3), record(l=1, r=2, n=3), record(l=1, r=2, n=3), {OBJECT: "both", **{field(name): "both" for name in "lrn"}})

    def test_clashes_of_fields(self):
        base = lone(record(l=1, r=2))
        self.assert_clash(base, lone(record(l=3, r=2)), lone(record(l=4, r=2)), [("a", field("l"))])
        self.assert_clash(base, lone(record(l=3, r=2)), lone(record(l="3", r=2)), [("a", field("l"))])
        self.assert_clash(base, lone(record(r=2)), lone(record(l=4, r=2)), [("a", field("l"))])
        self.assert_clash(base, lone(record(l=1, r=2, n=1)), lone(record(l=1, r=2, n=2)), [("a", field("n"))])
        self.assert_clash(base, lone(record(l=3, r=5, a=1)), lone(record(l=4, r=6, a=0)), [("a", field("a")), ("a", field("l")), ("a", field("r"))])

    def test_lists(self):
        for before, here, there, thing, word in (((1, 2), (1,), (1, 2), (1,), "one"), ((1, 2), (), (), (), "both"), ((), (), (), (), "both"),
                                                 ((1,), (1,), (), (), "other"), ((1,), (2, 3), (2, 3), (2, 3), "both"), ((1, 2), (2, 1), (1, 2), (2, 1), "one")):
            self.assert_lone(("list", before), ("list", here), ("list", there), ("list", thing), {OBJECT: "both", ITEMS: word})
        for before, here, there in (((1, 2), (1,), (2,)), ((1,), (1, 2), (1, 3)), ((1,), (1, 2), (0, 1)), ((), (1,), (2,)), ((1,), (), (2,)), ((1, 2), (2, 1), (1, 2, 3))):
            self.assert_clash(*[lone(("list", items)) for items in (before, here, there)], [("a", ITEMS)])

    def test_members(self):
        behind = {"b": ("list", ())}
        self.assert_lone(("set", (1, at("b"))), ("set", (at("b"), 1, 2)), ("set", (1, "1", at("b"))), ("set", (1, 2, "1", at("b"))),
                         {OBJECT: "both", member(1): "both", member(2): "one", member("1"): "other", member(at("b")): "both"}, **behind)
        self.assert_lone(("set", (1, 2, 3)), ("set", (1, 2)), ("set", (2, 3)), ("set", (2,)), {OBJECT: "both", member(2): "both"})
        self.assert_lone(("set", ()), ("set", (1,)), ("set", (1,)), ("set", (1,)), {OBJECT: "both", member(1): "both"})
        self.assert_lone(("set", (1,)), ("set", ()), ("set", (1, at("a"))), ("set", (at("a"),)), {OBJECT: "both", member(at("a")): "other"})

    def test_keys(self):
        behind = {"b": ("list", ())}
        self.assert_lone(("dict", ((1, at("b")), ("1", 1))), ("dict", ((1, at("b")), ("1", 2))), ("dict", ((1, at("b")), (at("b"), 1), ("1", 1))),
                         ("dict", ((1, at("b")), ("1", 2), (at("b"), 1))),
                         {OBJECT: "both", key(1): "both", key("1"): "one", key(at("b")): "other"}, **behind)
        self.assert_lone(("dict", ((1, 1), (2, 2))), ("dict", ((2, 2),)), ("dict", ((1, 1), (2, at("a")))), ("dict", ((2, at("a")),)),
                         {OBJECT: "both", key(2): "other"})
        told = [lone(("dict", pairs), b=("list", ())) for pairs in (((at("b"), 1),), ((at("b"), 2), (1, 1), ("x", 1), (at("a"), 1)), ((at("b"), 3), (1, 2), ("x", 2), (at("a"), 2)))]
        self.assert_clash(*told, [("a", key(1)), ("a", key("x")), ("a", key(at("a"))), ("a", key(at("b")))])
        self.assert_clash(lone(("dict", ((1, 1),))), lone(("dict", ())), lone(("dict", ((1, 2),))), [("a", key(1))])

    def test_kinds_and_names(self):
        base = ("list", (1,))
        self.assert_lone(base, ("set", (1, "x")), base, ("set", (1, "x")), {OBJECT: "one", member(1): "one", member("x"): "one"})
        self.assert_lone(base, ("set", (1,)), ("set", (1,)), ("set", (1,)), {OBJECT: "both", member(1): "both"})
        self.assert_lone(base, ("dict", ((1, 2),)), base, ("dict", ((1, 2),)), {OBJECT: "one", key(1): "one"})
        self.assert_lone(("set", (1,)), ("list", ()), ("set", (1,)), ("list", ()), {OBJECT: "one", ITEMS: "one"})
        self.assert_lone(record(l=1), ("record", "other", (("l", 1), ("r", 2))), record(l=1), ("record", "other", (("l", 1), ("r", 2))),
                         {OBJECT: "one", field("l"): "one", field("r"): "one"})
        self.assert_lone(record(l=1), ("record", "other", ()), ("record", "other", ()), ("record", "other", ()), {OBJECT: "both"})
        for here, there in ((("set", (1,)), ("list", (2,))), (("set", (1,)), ("set", (2,))), (("set", (1,)), ("set", ())), (("set", ()), ("dict", ())),
                            (("record", "p", ()), ("record", "q", ())), (("record", "p", (("l", 1),)), ("record", "p", (("r", 1),)))):
            self.assert_clash(lone(base), lone(here), lone(there), [("a", OBJECT)])
        self.assert_clash(lone(record(l=1)), lone(("record", "q", (("l", 1),))), lone(record(l=2)), [("a", OBJECT)])
        self.assert_clash(lone(record(l=1)), lone(("record", "q", (("l", 1),))), lone(("record", "r", (("l", 1),))), [("a", OBJECT)])


class TestObjects(MergeCase):

    def test_new_in_one_side(self):
        base = lone(("set", (1,)))
        one = lone(("set", (1, at("b"))), b=record(l=1, r=at("c")), c=("list", ()))
        other = lone(("set", (1, at("d"))), d=("dict", ((at("d"), 0),)))
        both = {OBJECT: "both", member(1): "both", member(at("b")): "one"}
        told = {"b": {OBJECT: "one", field("l"): "one", field("r"): "one"}, "c": {OBJECT: "one", ITEMS: "one"}}
        self.assert_merge(base, one, base, one, {"a": both, **told})
        self.assert_merge(base, one, other, Graph("a", {**one.objects, **other.objects, "a": ("set", (1, at("b"), at("d")))}),
                          {"a": {**both, member(at("d")): "other"}, **told, "d": {OBJECT: "other", key(at("d")): "other"}})

    def test_new_in_both_sides(self):
        base = lone(("set", ()))

        def new(thing, **behind):
            return lone(("set", (at("b"),)), b=thing, **behind)
        words = {OBJECT: "both", member(at("b")): "both"}
        self.assert_merge(base, new(("list", (1,))), new(("list", (1,))), new(("list", (1,))), {"a": words, "b": {OBJECT: "both", ITEMS: "both"}})
        self.assert_merge(base, new(record(l=1, m=2)), new(record(m=2, r=3)), new(record(l=1, m=2, r=3)),
                          {"a": words, "b": {OBJECT: "both", field("l"): "one", field("m"): "both", field("r"): "other"}})
        self.assert_merge(base, new(("set", (1, 2))), new(("set", (2, "x"))), new(("set", (1, 2, "x"))),
                          {"a": words, "b": {OBJECT: "both", member(1): "one", member(2): "both", member("x"): "other"}})
        self.assert_clash(base, new(("list", (1,))), new(("list", ())), [("b", ITEMS)])
        self.assert_clash(base, new(("list", (1,))), new(("set", (1,))), [("b", OBJECT)])
        self.assert_clash(base, new(record(l=1)), new(record(l=2)), [("b", field("l"))])
        self.assert_clash(base, new(("dict", ((1, 1),))), new(("dict", ((1, 2), (2, 2)))), [("b", key(1))])
        self.assert_clash(base, new(record(l=1)), new(("record", "q", (("l", 1),))), [("b", OBJECT)])

    def test_left_out_by_one_side(self):
        base = lone(record(l=at("b"), n=1), b=("set", (1,)))
        without = lone(record(n=1))
        self.assert_merge(base, without, base, without, {"a": {OBJECT: "both", field("n"): "both"}})
        # What a side has not counts there as it is in the base, so a change of it by the other side is no clash.
        changed = lone(record(l=at("b"), n=2), b=("set", (1, 2)))
        self.assert_merge(base, without, changed, lone(record(n=2)), {"a": {OBJECT: "both", field("n"): "other"}})
        anew = lone(record(l=at("b"), n=1, m=at("b")), b=("set", (2,)))
        self.assert_merge(base, without, anew, lone(record(n=1, m=at("b")), b=("set", (2,))),
                          {"a": {OBJECT: "both", field("n"): "both", field("m"): "other"}, "b": {OBJECT: "both", member(2): "other"}})

    def test_in_the_base_alone(self):
        base = lone(record(l=at("b"), r=at("b")), b=("list", ()))
        gone = lone(record(n=1))
        self.assert_merge(base, gone, gone, gone, {"a": {OBJECT: "both", field("n"): "both"}})
        # Each side takes one way to it away, and puts another one in, which is to what the base has.
        base = lone(record(l=at("b")), b=("list", (at("c"),)), c=("set", (5,)))
        one = lone(record(l=at("b")), b=("list", ()))
        self.assert_merge(base, one, one, one, {"a": {OBJECT: "both", field("l"): "both"}, "b": {OBJECT: "both", ITEMS: "both"}})

    def test_what_comes_back(self):
        # One takes the way through b away, other the way through c: both leave d, but a new way of one to c leads on.
        base = lone(record(b=at("b"), c=at("c")), b=("list", (at("d"),)), c=("list", (at("d"),)), d=("set", (7,)))
        one = lone(record(b=at("b"), c=at("c")), b=("list", ()), c=("list", (at("d"),)), d=("set", (7,)))
        other = lone(record(b=at("b"), c=at("c")), b=("list", (at("d"),)), c=("list", ()), d=("set", (7, 8)))
        self.assert_merge(base, one, other, lone(record(b=at("b"), c=at("c")), b=("list", ()), c=("list", ())),
                          {"a": {OBJECT: "both", field("b"): "both", field("c"): "both"}, "b": {OBJECT: "both", ITEMS: "one"}, "c": {OBJECT: "both", ITEMS: "other"}})
        # One has no d any more, other refers to it anew: it is as it is in the base.
        one = lone(record(b=at("b")), b=("list", ()))
        other = lone(record(b=at("b"), c=at("c"), x=at("d")), b=("list", (at("d"),)), c=("list", (at("d"),)), d=("set", (7,)))
        self.assert_merge(base, one, other, lone(record(b=at("b"), x=at("d")), b=("list", ()), d=("set", (7,))),
                          {"a": {OBJECT: "both", field("b"): "both", field("x"): "other"}, "b": {OBJECT: "both", ITEMS: "one"}, "d": {OBJECT: "both", member(7): "both"}})

    def test_roots(self):
        ring = {"a": ("list", (at("b"),)), "b": ("list", (at("c"),)), "c": ("list", (at("a"),))}
        graphs = {mark: Graph(mark, ring) for mark in "abc"}
        paper = {mark: {OBJECT: "both", ITEMS: "both"} for mark in "abc"}
        for base, one, other, root in ("aaaa", "abab", "aabb", "abbb", "bacx", "abcx"):
            if root == "x":
                self.assert_clash(graphs[base], graphs[one], graphs[other], [(None, ROOT)])
            else:
                self.assert_merge(graphs[base], graphs[one], graphs[other], graphs[root], paper)
        new = Graph("n", {"n": ("list", (at("a"),)), **ring})
        self.assert_merge(graphs["a"], new, graphs["a"], new, {"n": {OBJECT: "one", ITEMS: "one"}, **paper})
        part = Graph("d", {"d": ("list", ())})
        self.assert_merge(graphs["a"], part, graphs["a"], part, {"d": {OBJECT: "one", ITEMS: "one"}})
        self.assert_clash(graphs["a"], part, graphs["b"], [(None, ROOT)])

    def test_clashes_at_what_cannot_be_reached(self):
        base = lone(("list", (at("b"),)), b=("list", (1,)))
        one = lone(("list", (at("b"),)), b=("list", (2,)))
        other = lone(("list", (at("b"),)), b=("list", (3,)))
        self.assert_clash(base, one, other, [("b", ITEMS)])
        # The root of the merge is c, from which b cannot be reached.
        away = Graph("c", {"c": ("set", (at("d"),)), "d": ("list", (at("e"),)), "e": ("list", (1,))})
        other = Graph("c", {"c": ("set", (at("d"),)), "d": ("list", ())})
        self.assert_clash(Graph("z", {"z": ("list", ())}), away, other, [("d", ITEMS)])
        base = Graph("r", {"r": ("set", (at("b"),)), "b": ("list", (1,))})
        one = Graph("r", {"r": ("set", (at("b"), 1)), "b": ("list", (2,))})
        gone = Graph("r", {"r": ("set", (at("n"),)), "n": ("set", ())})
        self.assert_merge(base, one, gone, Graph("r", {"r": ("set", (1, at("n"))), "n": ("set", ())}),
                          {"r": {OBJECT: "both", member(1): "one", member(at("n")): "other"}, "n": {OBJECT: "other"}})
        root = Graph("q", {"q": ("set", (at("b"),)), "b": ("list", (3,))})
        self.assert_clash(base, one, root, [("b", ITEMS)])
        hidden = Graph("r", {"r": ("set", (2,))})
        both = [Graph("r", {"r": ("list", (at("b"), 0)), "b": ("list", (number,))}) for number in (2, 3)]
        self.assert_clash(Graph("r", {"r": ("list", (at("b"),)), "b": ("list", (1,))}), *both, [("b", ITEMS)])
        self.assert_clash(hidden, *both, [("b", ITEMS)])

    def test_clashes_come_in_order(self):
        base = Graph("r", {"r": ("set", tuple(map(at, "abcd"))), "a": record(l=1, r=1), "b": ("list", (1,)), "c": ("dict", ((2, 1), ("x", 1), (at("a"), 1))), "d": ("set", ())})
        sides = []
        for number in (7, 8):
            things = {"a": record(l=number, r=number, a=number), "b": ("list", (number,)), "c": ("dict", ((2, number), ("x", number), (at("a"), number), (-5, number))),
                      "d": ("list", (number,)), "n": ("list", (number,))}
            root = "rs"[number - 7] * 2
            sides.append(Graph(root, {"r": ("set", tuple(map(at, "abcdn"))), root: ("list", (at("r"),)), **things}))
        self.assert_clash(base, *sides, [(None, ROOT), ("a", field("a")), ("a", field("l")), ("a", field("r")), ("b", ITEMS), ("c", key(-5)), ("c", key(2)),
                                         ("c", key("x")), ("c", key(at("a"))), ("d", OBJECT), ("n", ITEMS)])


class TestLaws(MergeCase):

    def test_against_a_plain_second_program(self):
        merged = clashing = gone = 0
        for base, one, other in triples(1, 700):
            found, root, things, papers = plain_merge(base, one, other)
            if found:
                clashing += 1
                self.assert_clash(base, one, other, found)
                continue
            merged += 1
            graph = rooted(root, things)
            gone += len(graph) < len(things)
            self.assert_merge(base, one, other, graph, {mark: papers[mark] for mark in graph})
        self.assertTrue(merged > 150 and clashing > 80 and gone > 80, (merged, clashing, gone))

    def test_with_the_base_and_with_itself(self):
        for base, one, _ in triples(2, 100):
            self.assertEqual(merge(base, one, base)[0], one)
            self.assertEqual(merge(base, base, one)[0], one)
            self.assertEqual(merge(base, one, one)[0], one)
            self.assertEqual(merge(base, base, base)[0], base)
            words = {word for told in merge(base, one, one)[1].values() for word in told.values()}
            self.assertEqual(words, {"both"})
            self.assertLessEqual({word for told in merge(base, one, base)[1].values() for word in told.values()}, {"both", "one"})

    def test_a_paper_tells_each_place_of_each_object(self):
        for base, one, other in triples(3, 100):
            if clashes(base, one, other):
                continue
            graph, paper = merge(base, one, other)
            self.assert_exactly(sorted(paper), graph.marks)
            for mark, words in paper.items():
                kind, parts = graph[mark][0], graph[mark][-1]
                wanted = {OBJECT, *({ITEMS} if kind == "list" else {member(part) for part in parts} if kind == "set" else
                                    {((field if kind == "record" else key)(part[0])) for part in parts})}
                self.assertEqual(set(words), wanted)

    def test_too_many_parts(self):
        def full(*numbers, **behind):
            return Graph("r", {"r": ("set", (at("s"), at("t"))), "s": ("set", ()), "t": ("set", numbers), **behind})
        base = full(*range(20))
        self.assert_error(LimitExceeded, "number", 32, merge, base, full(*range(26)), full(*range(20), *range(30, 36)))
        self.assertIs(check_merge(base, full(*range(26)), full(*range(20), *range(30, 36)), base, {}), False)
        self.assertEqual(len(merge(base, full(*range(25)), full(*range(20), *range(30, 35)))[0]["t"][1]), 30)
        # The first one by its mark, also if another one has more; and clashes come ahead.
        first = Graph("r", {"r": ("set", (at("s"), at("t"))), "s": ("set", tuple(range(16))), "t": ("set", tuple(range(30)))})
        second = Graph("r", {"r": ("set", (at("s"), at("t"))), "s": ("set", tuple(range(20, 36))), "t": ("set", tuple(range(30, 60)))})
        self.assert_error(LimitExceeded, "number", 32, merge, full(), first, second)
        clashing = [Graph("r", {**told.objects, "r": ("set", (at("s"), at("t"), at("l"))), "l": ("list", (number,))}) for number, told in enumerate((first, second))]
        self.assert_clash(full(), *clashing, [("l", ITEMS)])
        # What cannot be reached may have more.
        gone = Graph("r", {"r": ("set", ())})
        one = Graph("r", {"r": ("set", (at("t"),)), "t": ("set", tuple(range(30)))})
        base = Graph("r", {"r": ("set", (at("t"),)), "t": ("set", ())})
        other = Graph("r", {"r": ("list", (at("t"),)), "t": ("set", tuple(range(30, 60)))})
        self.assert_error(LimitExceeded, "number", 60, merge, base, one, other)
        root = Graph("q", {"q": ("list", ())})
        self.assertEqual(merge(base, root, one)[0], root)
        self.assertEqual(merge(base, one, gone)[0], gone)
        # Fields and entries are parts, too.
        names = [first + second for first in "abcdefg" for second in "abcdefg"]
        fields = [("record", "p", tuple((name, 1) for name in told)) for told in ((), names[:20], names[20:40])]
        self.assert_error(LimitExceeded, "number", 40, merge, *[lone(told) for told in fields])
        entries = [("dict", tuple((number, 1) for number in told)) for told in ((), range(15), range(15, 31))]
        self.assert_error(LimitExceeded, "number", 31, merge, *[lone(told) for told in entries])

    def test_too_many_objects(self):
        def tail(letter, number):
            return {f"{letter}{index}": ("list", (at(f"{letter}{index + 1}"),) if index < number - 1 else ()) for index in range(number)}
        base = Graph("r", {"r": ("set", ())})
        sides = [Graph("r", {"r": ("set", (at(f"{letter}0"),)), **tail(letter, number)}) for letter, number in (("a", 30), ("b", 30), ("b", 29), ("c", 59))]
        self.assert_error(LimitExceeded, "number", 61, merge, base, sides[0], sides[1])
        self.assertIs(check_merge(base, sides[0], sides[1], sides[0], {}), False)
        self.assertEqual(len(merge(base, sides[0], sides[2])[0]), 60)
        self.assert_error(LimitExceeded, "number", 119, merge, base, sides[3], Graph("r", {"r": ("set", (at("d0"),)), **tail("d", 59)}))
        # Parts are told ahead of objects.
        one = Graph("r", {"r": ("set", (at("a0"), *range(29))), **tail("a", 30)})
        other = Graph("r", {"r": ("set", (at("b0"), *range(29, 58))), **tail("b", 30)})
        self.assert_error(LimitExceeded, "number", 60, merge, base, one, other)
        self.assertEqual(len(merge(chain_graph(60), chain_graph(60), chain_graph(60))[0]), 60)


class TestChecker(Case):

    def setUp(self):
        self.base = lone(("set", (1, at("b"), at("l"))), b=record(l=1, r=0), l=("list", ()))
        self.one = lone(("set", (1, at("b"), at("l"), at("d"))), b=record(l=7, r=0), l=("list", ()), d=("dict", ((1, at("b")), (0, 1), (at("b"), 2))))
        self.other = lone(("set", (0, at("b"), at("l"))), b=record(l=1, r=0, n=1), l=("list", (1,)))
        self.graph, self.paper = merge(self.base, self.one, self.other)

    def told(self, value, paper):
        return check_merge(self.base, self.one, self.other, value, paper)

    def test_right_ones(self):
        self.assertIs(self.told(self.graph, self.paper), True)
        turned = {mark: dict(reversed(words.items())) for mark, words in reversed(self.paper.items())}
        self.assertIs(self.told(Graph("a", dict(reversed(self.graph.objects.items()))), turned), True)

    def test_any_value(self):
        for value in [*STRANGE, "a", self.graph.objects, (self.graph, self.paper), self.paper, Graph, self.base, self.one, self.other, self.graph.part("b"),
                      self.graph.renamed({"l": "k"}), Graph("b", {"b": record(l=7, r=0, n=1)}), self.graph + (None, {"l": ("list", (0,))})]:
            self.assertIs(self.told(value, self.paper), False)
        for paper in [*STRANGE, list(self.paper.items()), (self.graph, self.paper), tuple(self.paper), self.graph, {mark: {} for mark in self.paper},
                      {mark: list(words.items()) for mark, words in self.paper.items()}, {mark: None for mark in self.paper}]:
            self.assertIs(self.told(self.graph, paper), False)

    def test_one_thing_bent_at_each_place(self):
        bent = []
        for mark, words in self.paper.items():
            without = copy.deepcopy(self.paper)
            del without[mark]
            bent += [without, {**without, "z": words}, {**without, mark.upper(): words}, {**without, at(mark): words}, {**self.paper, mark: {}}]
            for place, word in words.items():
                rest = {told: words[told] for told in words if told != place}
                others = [{**rest, told: word} for told in ((), ("objects",), ("item", 0), place[:1] + ("zz",), place + (1,), list(place)[0], None, 1, (place,))
                          if told not in words]
                changed = [{**words, place: told} for told in ("both", "one", "other", "root", "", None, True, 1, ["one"], ("both",), b"both", "Both") if told != word]
                bent += [{**self.paper, mark: told} for told in [rest, *others, *changed, {**words, ("zz",): word}, {**words, None: word}]]
        for paper in [*bent, {**self.paper, "z": {OBJECT: "both"}}, {**self.paper, None: {}}, {**self.paper, 1: {}}]:
            self.assertIs(self.told(self.graph, paper), False, paper)
        self.assertGreater(len(bent), 200)

    def test_true_in_the_place_of_one(self):
        for mark, words in self.paper.items():
            for place in words:
                for number, flags in ((1, (True, 1.0)), (0, (False, 0.0))):
                    if len(place) == 2 and place[1] == number and not isinstance(place[1], str):
                        for flag in flags:
                            told = {(place[0], flag) if other == place else other: word for other, word in words.items()}
                            self.assertEqual(told, words)
                            self.assertIs(self.told(self.graph, {**self.paper, mark: told}), False)

    def test_it_does_not_believe_what_claims_to_be_equal(self):
        class Sly:
            def __init__(self, word="object"):
                self.word = word

            def __eq__(self, other):
                return True

            def __hash__(self):
                return hash(self.word)
        for mark, words in self.paper.items():
            self.assertIs(self.told(self.graph, {**self.paper, mark: Sly()}), False)
            rest = {other: told for other, told in self.paper.items() if other != mark}
            self.assertIs(self.told(self.graph, {**rest, Sly(mark): words}), False)
            for place in words:
                self.assertIs(self.told(self.graph, {**self.paper, mark: {**words, place: Sly()}}), False)
            rest = {place: word for place, word in words.items() if place != OBJECT}
            self.assertIs(self.told(self.graph, {**self.paper, mark: {**rest, (Sly(),): words[OBJECT]}}), False)
        self.assertIs(self.told(Sly(), self.paper), False)

    def test_against_merging(self):
        chance = oracle.chances(5)
        right = 0
        for base, one, other in triples(4, 150):
            if clashes(base, one, other):
                self.assertIs(check_merge(base, one, other, one, {}), False)
                continue
            graph, paper = merge(base, one, other)
            for _ in range(20):
                value = chance.choice((graph, one, other))
                told = oracle.bent(chance, paper, MARKS) if chance.random() < 0.8 else paper
                wanted = value == graph and told == paper and repr(sorted_paper(told)) == repr(sorted_paper(paper))
                right += wanted
                self.assertIs(check_merge(base, one, other, value, told), wanted)
        self.assertGreater(right, 100)


def sorted_paper(value):
    """A paper with its keys in one order, so that True and 1 are told apart by their repr; any other value as it is."""
    if not isinstance(value, dict):
        return value
    return sorted(([key, sorted_paper(told)] for key, told in value.items()), key=repr)


class TestConventions(Case):

    def test_wrong_graphs(self):
        graph = lone(("list", ()))
        for value in [*STRANGE, "a", graph.objects, Graph, [graph]]:
            for call, more in ((merge, {}), (clashes, {}), (check_merge, {"value": graph, "paper": {}})):
                self.assert_error(BadArgument, "value", value, call, base=value, one=graph, other=graph, **more)
                self.assert_error(BadArgument, "value", value, call, base=graph, one=value, other=graph, **more)
                self.assert_error(BadArgument, "value", value, call, base=graph, one=graph, other=value, **more)
                self.assert_error(BadArgument, "value", value, call, base=value, one=None, other=(), **more)
                self.assert_error(BadArgument, "value", value, call, base=graph, one=value, other=(), **more)

    def test_names_of_arguments(self):
        for base, one, other in triples(6, 20):
            self.assert_exactly(clashes(other=other, one=one, base=base), clashes(base, one, other))
            if not clashes(base, one, other):
                graph, paper = merge(other=other, one=one, base=base)
                self.assertIs(check_merge(paper=paper, value=graph, other=other, base=base, one=one), True)

    def test_what_was_returned_may_change(self):
        base, one, other = lone(("set", (at("b"),)), b=("list", (1,))), lone(("set", ())), lone(("set", (at("b"), 2)), b=("list", (2,)))
        graph, paper = merge(base, other, other)
        before = repr((graph.objects, paper))
        scribble(paper)
        self.assertEqual(repr((merge(base, other, other)[0].objects, merge(base, other, other)[1])), before)
        lists = containers([merge(base, other, other)[1], merge(base, other, other)[1]])
        self.assertEqual(len({id(value) for value in lists}), len(lists))
        told = [lone(("list", (number,))) for number in range(3)]
        scribble(clashes(*told))
        for _ in range(2):
            with self.assertRaises(Clash) as caught:
                merge(*told)
            self.assert_exactly(caught.exception.clashes, [("a", ITEMS)])
            scribble(caught.exception.clashes)
        self.assert_exactly(clashes(*told), [("a", ITEMS)])

    def test_nothing_that_was_given_is_changed(self):
        for base, one, other in triples(7, 20):
            before = [(graph.root, graph.objects) for graph in (base, one, other)]
            found = clashes(base, one, other)
            value, paper = (base, {}) if found else merge(base, one, other)
            kept = copy.deepcopy(paper)
            check_merge(base, one, other, value, paper)
            self.assertEqual(([(graph.root, graph.objects) for graph in (base, one, other)], paper), (before, kept))
