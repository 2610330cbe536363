"""The guarantees (3) over graphs that went through editors, stores, merges, journals and their recovery."""

from samebytes.console import Console
from samebytes.edits import Editor
from samebytes.forms import one_text
from samebytes.graphs import Graph
from samebytes.journals import damage, journal, recover
from samebytes.maps import keeps
from samebytes.merges import check_merge, clashes, merge
from samebytes.nearest import cost, cost_bound, nearest
from samebytes.papers import check_difference, difference, is_same, sameness
from samebytes.pieces import pieces, shape
from samebytes.stores import Store
from samebytes.symmetries import check_number, families, number_paper, symmetries
from samebytes.texts import read, write
from samebytes.versions import History
from samebytes.views import View
from tests import oracle
from tests.helpers import Case, at, chain_graph, rings, twins
from tests.plain import a_graph, random_change

MARKS = [f"m{index}" for index in range(9)]


def told(graph):
    """All that is told of a graph by its marks."""
    return repr([write(graph), one_text(graph), pieces(graph), [shape(graph, piece) for piece in pieces(graph)], symmetries(graph), families(graph), graph.marks, graph.root,
                 sorted(graph.objects.items()), list(graph.walk()), [graph.referrers(mark) for mark in graph]])


def anew(graph):
    """The graph made anew, of objects in another order."""
    return Graph(graph.root, {mark: graph[mark] for mark in reversed(graph.marks)})


def through_an_editor(chance, graph):
    editor = Editor(random_change(chance, graph, sorted({*MARKS, *graph.marks})))
    editor.carry_out((graph.root, graph.objects))
    mark = chance.choice(graph.marks)
    editor.carry_out((None, {mark: ("list", ())}))
    editor.undo()
    return editor.graph


def through_a_store(chance, graph):
    store = Store()
    store.put("other", random_change(chance, graph, sorted({*MARKS, *graph.marks})))
    store.put("one", graph)
    store.drop("other")
    return store.drop("one")


def through_a_view(chance, graph):
    store = Store()
    store.put("one", graph)
    view = View(store, "one")
    return Graph(view.root, {mark: view.thing(mark) for mark in chance.sample(graph.marks, len(graph))})


def through_a_merge(chance, graph):
    base = random_change(chance, graph, sorted({*MARKS, *graph.marks}))
    return merge(base, graph, base)[0] if chance.random() < 0.5 else merge(base, graph, graph)[0]


def through_a_journal(chance, graph):
    history = History()
    history.commit(random_change(chance, graph, sorted({*MARKS, *graph.marks})))
    history.commit(graph, (0,))
    history.commit(chain_graph(3))
    text = journal(history)
    # The last line, which is of the last version, is lost.
    recovered, lost = recover(text[:-1])
    assert lost > 0 and len(recovered) == 2
    assert damage(text[:-1])[0][1] == recovered[1]
    return recovered[1]


def through_a_difference(chance, graph):
    other = random_change(chance, graph, sorted({*MARKS, *graph.marks}))
    return other + (graph - other)


def through_a_text(_, graph):
    return read(write(graph))


def through_a_console(_, graph):
    console = Console()
    console.execute("new " + write(graph).replace("\n", "; "))
    return read(console.execute("text").replace("; ", "\n"))


def through_a_history(chance, graph):
    history = History()
    history.commit(random_change(chance, graph, sorted({*MARKS, *graph.marks})))
    history.commit(graph, (0,))
    return history[history.merge(1, 0)]


WAYS = [through_an_editor, through_a_store, through_a_view, through_a_merge, through_a_journal, through_a_difference, through_a_text, through_a_console, through_a_history]


class TestWays(Case):

    def assert_ways(self, chance, graph):
        wanted = told(graph)
        self.assertEqual(told(anew(graph)), wanted)
        went = graph
        for way in chance.sample(WAYS, len(WAYS)):
            went = way(chance, went)
            self.assertEqual(went, graph, way.__name__)
            self.assertEqual(told(went), wanted, way.__name__)
        return went

    def test_random_graphs(self):
        chance = oracle.chances(1)
        for _ in range(40):
            graph = a_graph(chance, 1, 8).renamed({})
            self.assert_ways(chance, graph.renamed({mark: MARKS[index] for index, mark in enumerate(graph)}))

    def test_graphs_that_are_very_much_alike(self):
        chance = oracle.chances(2)
        for graph in (rings([3, 3]), rings([6]), rings([2, 2, 2], True, "dict"), twins(12), chain_graph(30), twins(30)):
            went = self.assert_ways(chance, graph)
            self.assertEqual(symmetries(went)[0], symmetries(graph)[0])

    def test_what_has_gone_these_ways_is_compared(self):
        chance = oracle.chances(3)
        same = unlike = 0
        for _ in range(60):
            one = a_graph(chance, 1, 6)
            other = oracle.shuffled(chance, one) if chance.random() < 0.5 else random_change(chance, one, one.marks, 1)
            first, second = chance.choice(WAYS)(chance, one), chance.choice(WAYS)(chance, other)
            told_same = bool(oracle.all_maps(one, other))
            self.assertIs(is_same(first, second), told_same)
            self.assertIs(one_text(first) == one_text(second), told_same)
            self.assertIs(nearest(first, second)[0] == 0, told_same)
            self.assertLessEqual(cost_bound(first, second), nearest(first, second)[0])
            if told_same:
                same += 1
                self.assertIs(keeps(one, other, sameness(first, second)), True)
                self.assertEqual(cost(one, other, sameness(first, second)), 0)
                self.assertIsNone(difference(first, second))
            else:
                unlike += 1
                self.assertIsNone(sameness(first, second))
                self.assertIs(check_difference(one, other, difference(first, second)), True)
            self.assertIs(check_number(one, symmetries(first)[0], number_paper(first)), True)
        self.assertTrue(same > 20 and unlike > 10, (same, unlike))

    def test_merges_of_what_has_gone_these_ways(self):
        chance = oracle.chances(4)
        for _ in range(40):
            base = a_graph(chance, 2, 5)
            sides = [random_change(chance, base, sorted({*base.marks, "n0", "n1"}), 3) for _ in range(2)]
            found = clashes(base, *sides)
            went = [chance.choice(WAYS)(chance, graph) for graph in (base, *sides)]
            self.assertEqual(clashes(*went), found)
            if not found:
                graph, paper = merge(base, *sides)
                self.assertIs(check_merge(*went, graph, paper), True)
                self.assertEqual(told(merge(*went)[0]), told(anew(graph)))
                self.assertEqual(Editor(graph).text, one_text(merge(*went)[0]))


class TestGuarantees(Case):

    def test_new_marks_change_nothing(self):
        chance = oracle.chances(5)
        for _ in range(30):
            one = a_graph(chance, 1, 8)
            other = oracle.shuffled(chance, one)
            store = Store()
            store.put("one", one)
            shapes = store.shapes
            store.put("two", other)
            self.assertEqual(store.shapes, shapes)
            self.assertEqual((Editor(one).text, symmetries(one)[0], cost_bound(one, other)), (Editor(other).text, symmetries(other)[0], 0))

    def test_behind_each_edit_the_text_is_that_of_the_graph_made_anew(self):
        chance = oracle.chances(6)
        for _ in range(15):
            graphs = [a_graph(chance, 2, 6)]
            editor = Editor(graphs[0])
            for _ in range(6):
                graphs.append(random_change(chance, graphs[-1], sorted({*MARKS[:3], *graphs[-1].marks})))
                editor.carry_out(graphs[-1] - graphs[-2])
                self.assertEqual(editor.text, one_text(read(write(graphs[-1]))))
            while len(editor):
                editor.undo()
                self.assertEqual(editor.text, one_text(graphs[len(editor)]))

    def test_one_shared_object_and_two_alike_ones(self):
        shared = Graph("a", {"a": ("list", (at("b"), at("b"))), "b": ("set", ())})
        alike = Graph("a", {"a": ("list", (at("b"), at("c"))), "b": ("set", ()), "c": ("set", ())})
        history, store = History(), Store()
        for name, graph in (("shared", shared), ("alike", alike)):
            history.commit(graph)
            store.put(name, graph)
        again, _ = recover(journal(history))
        self.assertEqual([one_text(again[number]) for number in range(2)], [one_text(store.get(name)) for name in ("shared", "alike")])
        self.assertIs(is_same(again[0], again[1]), False)
        self.assertEqual(nearest(again[0], again[1])[0], 2)
        self.assertIs(is_same(merge(again[0], again[1], again[0])[0], alike), True)
