"""Histories: versions, parents, branches, nearest common versions and merges of versions (18)."""

from samebytes.errors import BadArgument, BadName, BadValue, Clash, GraphError, LimitExceeded, UnknownVersion
from samebytes.graphs import Graph
from samebytes.merges import clashes, merge
from samebytes.versions import History
from tests import oracle
from tests.helpers import HUGE, STRANGE, Case, at, chain_graph
from tests.plain import a_graph, random_change
from tests.test_arguments import scribble

ONE = Graph("a", {"a": ("set", (1, at("b"))), "b": ("list", ())})
NO_VERSIONS = [*STRANGE, -1, 5, 99, HUGE, True, False, None, "0", "", 0.0, 1.0, (0,), [0], {0: 0}, ONE]
NO_NAMES = STRANGE + ["", "a1", "1", "abcdefghi", 0, 1, ("a",)]
NO_PARENTS = [*[value for value in STRANGE if not isinstance(value, tuple)], 0, 1, "0", "01", [0], [], {0: 1}, {}, (5,), (0, 5), (5, 0), (0, 0), (4, 4), (0, 1, 2), (0, 1, 0),
              (-1,), (True,), (0, True), (False,), (1, False), (None,), ("0",), ((0,),), ([0],), (0.0,), (0, 1.0), (HUGE,), (ONE,), range(0), range(2)]
BRANCHES = {"main": 2, "old": 0, "a": 4}


def graph_of(*members):
    return Graph("a", {"a": ("set", members)})


def some_history():
    """Five versions: 0, 1 and 2 come from 0, 3 is alone, 4 is the merge of 1 and 2; and three branches."""
    history = History()
    for graph, parents in ((graph_of(1), ()), (graph_of(1, 2), (0,)), (graph_of(1, 3), (0,)), (Graph("z", {"z": ("list", ())}), ()), (graph_of(1, 2, 3), (1, 2))):
        history.commit(graph, parents)
    for name, number in BRANCHES.items():
        history.branch(name, number)
    return history


def told(history):
    """All that a history tells."""
    return repr([len(history), sorted(history.branches.items()), [(history[number].root, history[number].objects, history.parents(number)) for number in range(len(history))]])


def sources(history, number):
    """The versions from which one comes (18)."""
    return {number}.union(*[sources(history, parent) for parent in history.parents(number)])


def random_history(chance, number):
    history = History()
    marks = ["m0", "m1", "m2", "n0"]
    for version in range(number):
        parents = tuple(chance.sample(range(version), chance.randrange(min(version, 2) + 1)))
        graph = a_graph(chance, 1, 3) if not parents else history[parents[0]]
        history.commit(random_change(chance, graph.renamed({}), sorted({*marks, *graph.marks}), 2), parents)
    return history


class TestVersions(Case):

    def test_empty(self):
        history = History()
        self.assert_exactly((len(history), history.branches), (0, {}))
        for value in NO_VERSIONS + [0, 1]:
            self.assert_error(UnknownVersion, "number", value, history.parents, value)
        self.assertIs(history == History(), True)

    def test_commits(self):
        history = History()
        self.assert_exactly(history.commit(ONE), 0)
        self.assert_exactly(history.commit(ONE, ()), 1)
        self.assert_exactly(history.commit(graph_of(1), (1,)), 2)
        self.assert_exactly(history.commit(graph_of(2), (2, 0)), 3)
        self.assert_exactly(history.commit(parents=(0, 2), graph=graph_of(3)), 4)
        self.assert_exactly(len(history), 5)
        self.assert_exactly([history.parents(number) for number in range(5)], [(), (), (1,), (2, 0), (0, 2)])
        self.assertEqual([history[number] for number in range(5)], [ONE, ONE, graph_of(1), graph_of(2), graph_of(3)])
        self.assert_exactly(history[0].objects, ONE.objects)

    def test_wrong_commits(self):
        history = some_history()
        before = told(history)
        for value in [*STRANGE, "a", ONE.objects, Graph, history]:
            self.assert_error(BadArgument, "value", value, history.commit, value)
            self.assert_error(BadArgument, "value", value, history.commit, value, (9,))
        for value in NO_PARENTS:
            self.assert_error(BadValue, "value", value, history.commit, ONE, value)
            self.assert_error(BadValue, "value", value, history.commit, graph=ONE, parents=value)
        self.assertEqual(told(history), before)

    def test_unknown_versions(self):
        history = some_history()
        before = told(history)
        for value in NO_VERSIONS:
            self.assert_error(UnknownVersion, "number", value, lambda: history[value])
            self.assert_error(UnknownVersion, "number", value, history.parents, value)
            for call in (history.comes_from, history.common, history.merge):
                self.assert_error(UnknownVersion, "number", value, call, value, 0)
                self.assert_error(UnknownVersion, "number", value, call, 0, value)
                self.assert_error(UnknownVersion, "number", value, call, value, None)
                self.assert_error(UnknownVersion, "number", value, call, other=None, number=value)
            self.assert_error(UnknownVersion, "number", value, history.branch, "main", value)
            self.assert_error(UnknownVersion, "number", value, history.branch, "new", value)
        self.assertEqual(told(history), before)

    def test_it_is_not_iterated_over(self):
        self.assertRaises(TypeError, iter, some_history())
        self.assertRaises(TypeError, list, some_history())


class TestBranches(Case):

    def test_setting(self):
        history = some_history()
        self.assert_exactly(dict(sorted(history.branches.items())), dict(sorted(BRANCHES.items())))
        self.assertIsNone(history.branch("main", 3))
        self.assertIsNone(history.branch(number=1, name="abcdefgh"))
        self.assertEqual(history.branches, {**BRANCHES, "main": 3, "abcdefgh": 1})

    def test_wrong_names(self):
        history = some_history()
        before = told(history)
        for value in NO_NAMES:
            self.assert_error(BadName, "value", value, history.branch, value, 0)
            self.assert_error(BadName, "value", value, history.branch, value, 9)
            self.assert_error(BadName, "value", value, history.branch, number=None, name=value)
        self.assertEqual(told(history), before)

    def test_what_was_returned_may_change(self):
        history = some_history()
        before = told(history)
        scribble(history.branches)
        history[0].objects.clear()
        self.assertEqual(told(history), before)
        self.assertIsNot(history.branches, history.branches)


class TestWays(Case):

    def test_by_hand(self):
        history = some_history()
        self.assert_exactly([[history.comes_from(number, other) for other in range(5)] for number in range(5)],
                            [[True, False, False, False, False], [True, True, False, False, False], [True, False, True, False, False],
                             [False, False, False, True, False], [True, True, True, False, True]])
        self.assert_exactly([[history.common(number, other) for other in range(5)] for number in range(5)],
                            [[0, 0, 0, None, 0], [0, 1, 0, None, 1], [0, 0, 2, None, 2], [None, None, None, 3, None], [0, 1, 2, None, 4]])
        self.assert_exactly((history.comes_from(other=1, number=4), history.common(other=1, number=4)), (True, 1))

    def test_the_greatest_number(self):
        history = History()
        for parents in ((), (), (0, 1), (1, 0), (2, 3), (3, 2)):
            history.commit(ONE, parents)
        self.assert_exactly((history.common(2, 3), history.common(4, 5), history.common(0, 1), history.common(2, 0)), (1, 3, None, 0))

    def test_against_the_words_of_the_document(self):
        chance = oracle.chances(1)
        for _ in range(20):
            history = random_history(chance, 9)
            for number in range(9):
                for other in range(9):
                    self.assertIs(history.comes_from(number, other), other in sources(history, number))
                    self.assert_exactly(history.common(number, other), max(sources(history, number) & sources(history, other), default=None))

    def test_a_long_line(self):
        history = History()
        for number in range(3000):
            history.commit(ONE, (number - 1,) if number else ())
        self.assertIs(history.comes_from(2999, 0), True)
        self.assert_exactly(history.common(2999, 1500), 1500)


class TestMerges(Case):

    def test_two_sides(self):
        history = some_history()
        self.assert_exactly(history.merge(1, 2), 5)
        self.assert_exactly((history[5]["a"], history.parents(5), len(history)), (("set", (1, 2, 3)), (1, 2), 6))
        self.assert_exactly(history.merge(other=1, number=2), 6)
        self.assert_exactly((history[6]["a"], history.parents(6)), (("set", (1, 2, 3)), (2, 1)))
        self.assertEqual(history.branches, BRANCHES)

    def test_where_one_comes_from_the_other(self):
        history = some_history()
        self.assert_exactly((history.merge(0, 4), history[5] == history[4], history.parents(5)), (5, True, (0, 4)))
        self.assert_exactly((history.merge(4, 1), history[6] == history[4], history.parents(6)), (6, True, (4, 1)))

    def test_the_same(self):
        history = some_history()
        self.assert_exactly((history.merge(3, 3), history[5] == history[3], history.parents(5)), (5, True, (3,)))

    def test_none_in_common(self):
        history = some_history()
        before = told(history)
        for number, other in ((3, 0), (0, 3), (4, 3), (3, 4)):
            self.assert_error(BadValue, "value", other, history.merge, number, other)
        self.assertEqual(told(history), before)

    def test_errors_of_merging(self):
        history = History()
        for graph, parents in ((Graph("a", {"a": ("list", ())}), ()), (Graph("a", {"a": ("list", (1,))}), (0,)), (Graph("a", {"a": ("list", (2,))}), (0,)),
                               (graph_of(), ()), (graph_of(*range(20)), (3,)), (graph_of(*range(20, 40)), (3,)),
                               (Graph("r", {"r": ("set", ())}), ()), (Graph("r", {"r": ("set", (at("a0"),)), **chain_graph(59).objects}), (6,)),
                               (Graph("r", {"r": ("set", (at("b"),)), "b": ("list", ())}), (6,))):
            history.commit(graph, parents)
        before = told(history)
        with self.assertRaises(GraphError) as caught:
            history.merge(1, 2)
        self.assertIs(caught.exception.__class__, Clash)
        self.assert_exactly(caught.exception.clashes, [("a", ("items",))])
        self.assert_error(LimitExceeded, "number", 40, history.merge, 4, 5)
        self.assert_error(LimitExceeded, "number", 61, history.merge, 7, 8)
        self.assertEqual(told(history), before)

    def test_against_merging(self):
        chance = oracle.chances(2)
        made = 0
        for _ in range(40):
            history = random_history(chance, 6)
            number, other = chance.randrange(6), chance.randrange(6)
            common = history.common(number, other)
            if common is None:
                self.assert_error(BadValue, "value", other, history.merge, number, other)
            elif clashes(history[common], history[number], history[other]):
                self.assertRaises(Clash, history.merge, number, other)
            else:
                made += number != other
                self.assert_exactly(history.merge(number, other), 6)
                self.assertEqual(history[6], merge(history[common], history[number], history[other])[0])
                self.assert_exactly(history.parents(6), (number, other) if number != other else (number,))
        self.assertGreater(made, 5)


class TestEquality(Case):

    def test_equal_ones(self):
        self.assertIs(some_history() == some_history(), True)
        self.assertIs(some_history() != some_history(), False)
        other = History()
        for number in range(5):
            other.commit(some_history()[number], some_history().parents(number))
        self.assertIs(other == some_history(), False)
        for name in sorted(BRANCHES, reverse=True):
            other.branch(name, 0)
            other.branch(name, BRANCHES[name])
        self.assertIs(other == some_history(), True)

    def test_unlike_ones(self):
        def changed(change):
            history = some_history()
            change(history)
            return history
        others = [changed(lambda told: told.commit(ONE)), changed(lambda told: told.branch("main", 1)), changed(lambda told: told.branch("new", 1)), History()]
        for place in range(5):
            for graph, parents in ((graph_of(9), None), (None, (0,) if place else None), (None, ()), (None, (2, 1))):
                history = History()
                for number in range(5):
                    right = some_history()
                    ok = number == place and parents is not None and all(parent < number for parent in parents)
                    history.commit(graph if graph and number == place else right[number], parents if ok else right.parents(number))
                for name, number in BRANCHES.items():
                    history.branch(name, number)
                others.append(history)
        unlike = [history for history in others if told(history) != told(some_history())]
        self.assertGreater(len(unlike), 12)
        for history in unlike:
            self.assertIs(history == some_history(), False)
            self.assertIs(history != some_history(), True)

    def test_graphs_are_compared_with_their_marks(self):
        one, other = History(), History()
        one.commit(ONE)
        other.commit(ONE.renamed({"a": "z"}))
        self.assertIs(one == other, False)

    def test_it_equals_nothing_else_and_has_no_hash(self):
        history = some_history()
        for value in [*[value for value in STRANGE if value.__class__.__name__ != "Odd"], ONE, History, [], 5, told(history)]:
            self.assertIs(history == value, False)
        self.assertRaises(TypeError, hash, history)
        self.assertRaises(TypeError, lambda: {history: 1})
