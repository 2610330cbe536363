"""The examples of the interface, as they are written there."""

import doctest
import pathlib
import unittest

OBJECTS = """
>>> from samebytes.objects import ordered
>>> ordered(('dict', ((('at', 'b'), 1), ('k', 2), (7, ('at', 'a')))))
('dict', ((7, ('at', 'a')), ('k', 2), (('at', 'b'), 1)))

>>> from samebytes.objects import places
>>> places(('record', 'pair', (('right', 5), ('left', ('at', 'b')))))
[(('field', 'left'), ('at', 'b')), (('field', 'right'), 5)]
"""

GRAPHS = """
>>> from samebytes.graphs import Graph
>>> graph = Graph('a', {'a': ('record', 'pair', (('left', ('at', 'b')), ('right', 5))), 'b': ('dict', (('k', ('at', 'a')),))})
>>> (graph(('left', 'k')), graph(('left', 'k', 'right')))
(('at', 'a'), 5)

>>> from samebytes.graphs import Graph
>>> one = Graph('a', {'a': ('set', (('at', 'b'), 3)), 'b': ('list', ())})
>>> other = Graph('a', {'a': ('set', (3,))})
>>> (one - other, (other + (None, {'a': ('list', (7,))}))['a'])
((None, {'a': ('set', (3, ('at', 'b'))), 'b': ('list', ())}), ('list', (7,)))
"""

TEXTS = r"""
>>> from samebytes.graphs import Graph
>>> from samebytes.texts import write
>>> write(Graph('a', {'a': ('record', 'pair', (('left', ('at', 'b')), ('right', -5))), 'b': ('set', ('x', ('at', 'a')))}))
"root a\na = record pair (left: @b, right: -5)\nb = set {'x', @a}"
"""

MAPS = """
>>> from samebytes.graphs import Graph
>>> from samebytes.maps import keeps
>>> one = Graph('a', {'a': ('list', (('at', 'a'), 1))})
>>> (keeps(one, one.renamed({'a': 'b'}), {'a': 'b'}), keeps(one, one, {}))
(True, False)
"""

COLOURS = """
>>> from samebytes.graphs import Graph
>>> from samebytes.colours import classes
>>> classes(Graph('a', {'a': ('set', (('at', 'b'), ('at', 'c'), ('at', 'd'))), 'b': ('list', ()), 'c': ('list', ()), 'd': ('list', (1,))}))
[['a'], ['b', 'c'], ['d']]
"""

PAPERS = """
>>> from samebytes.graphs import Graph
>>> from samebytes.papers import is_same
>>> one = Graph('a', {'a': ('set', (('at', 'b'), ('at', 'c'))), 'b': ('list', ()), 'c': ('list', ())})
>>> other = Graph('x', {'x': ('set', (('at', 'y'),)), 'y': ('list', ())})
>>> (is_same(one, other), is_same(one, one.renamed({'b': 'c', 'c': 'b'})), len(one))
(False, True, 3)

>>> from samebytes.graphs import Graph
>>> from samebytes.papers import difference
>>> one = Graph('a', {'a': ('list', (1,))})
>>> difference(one, Graph('b', {'b': ('list', (2,))}))
('bags', [({'a': 0}, {'b': 1})])
"""

SYMMETRIES = """
>>> from samebytes.graphs import Graph
>>> from samebytes.symmetries import symmetries
>>> symmetries(Graph('a', {'a': ('set', (('at', 'b'), ('at', 'c'), ('at', 'd'))), 'b': ('list', ()), 'c': ('list', ()), 'd': ('list', ())}))[0]
6

>>> from samebytes.graphs import Graph
>>> from samebytes.symmetries import check_number
>>> graph = Graph('a', {'a': ('set', (('at', 'b'), ('at', 'c'), ('at', 'd'))), 'b': ('list', ()), 'c': ('list', ()), 'd': ('list', ())})
>>> stay = {'a': 'a', 'b': 'b', 'c': 'c', 'd': 'd'}
>>> first = ('b', [{'a': 0, 'b': 1, 'c': 1, 'd': 1}], [stay, {'a': 'a', 'b': 'c', 'c': 'b', 'd': 'd'}, {'a': 'a', 'b': 'd', 'c': 'c', 'd': 'b'}], {})
>>> second = ('c', [{'a': 0, 'b': 1, 'c': 2, 'd': 2}], [stay, {'a': 'a', 'b': 'b', 'c': 'd', 'd': 'c'}], {})
>>> paper = [first, second, ('alone', [{'a': 0, 'b': 1, 'c': 2, 'd': 3}])]
>>> (check_number(graph, 6, paper), check_number(graph, 3, paper))
(True, False)
"""

FORMS = r"""
>>> from samebytes.graphs import Graph
>>> from samebytes.forms import one_text
>>> one = Graph('b', {'b': ('list', (('at', 'a'), ('at', 'a'))), 'a': ('set', ())})
>>> one_text(one)
'root x0\nx0 = list [@x1, @x1]\nx1 = set {}'
"""

PIECES = """
>>> from samebytes.graphs import Graph
>>> from samebytes.pieces import pieces
>>> pieces(Graph('a', {'a': ('list', (('at', 'b'), ('at', 'd'))), 'b': ('list', (('at', 'c'),)), 'c': ('set', (('at', 'b'), ('at', 'd'))), 'd': ('list', ())}))
[['d'], ['b', 'c'], ['a']]
"""

STORES = """
>>> from samebytes.graphs import Graph
>>> from samebytes.stores import Store
>>> store = Store()
>>> store.put('one', Graph('a', {'a': ('record', 'pair', (('left', ('at', 'b')), ('right', ('at', 'b')))), 'b': ('list', ())}))
>>> store.put('two', Graph('a', {'a': ('record', 'pair', (('left', ('at', 'b')), ('right', ('at', 'c')))), 'b': ('list', ()), 'c': ('list', ())}))
>>> (len(store.shapes), len(store.occurrences('one')), len(store.occurrences('two')))
(3, 2, 3)
"""

VIEWS = """
>>> from samebytes.graphs import Graph
>>> from samebytes.stores import Store
>>> from samebytes.views import View
>>> store = Store()
>>> store.put('one', Graph('a', {'a': ('list', (('at', 'b'), ('at', 'c'))), 'b': ('list', (5,)), 'c': ('list', ())}))
>>> view = View(store, 'one')
>>> (view((0, 0)), view.loaded)
(5, [['a'], ['b']])
"""

EDITS = r"""
>>> from samebytes.graphs import Graph
>>> from samebytes.edits import Editor
>>> editor = Editor(Graph('a', {'a': ('set', (1, 2))}))
>>> editor.drop_member('a', 1)
>>> editor.carry_out((None, {'a': ('list', (('at', 'b'), 7)), 'b': ('set', ())}))
>>> editor.set_item('a', 0, 'x')
>>> (editor.graph.marks, len(editor), editor.text)
(['a'], 3, "root x0\nx0 = list ['x', 7]")
"""

NEAREST = """
>>> from samebytes.graphs import Graph
>>> from samebytes.nearest import nearest
>>> one = Graph('a', {'a': ('set', (('at', 'b'), ('at', 'c'))), 'b': ('list', ()), 'c': ('list', (1,))})
>>> other = Graph('x', {'x': ('set', (('at', 'y'), ('at', 'z'))), 'y': ('list', ()), 'z': ('list', (2,))})
>>> nearest(one, other)
(1, {'a': 'x', 'b': 'y', 'c': 'z'})
"""

MERGES = """
>>> from samebytes.graphs import Graph
>>> from samebytes.merges import merge
>>> base = Graph('a', {'a': ('record', 'pair', (('left', 1), ('right', 2)))})
>>> one = Graph('a', {'a': ('record', 'pair', (('left', 7), ('right', 2)))})
>>> other = Graph('a', {'a': ('record', 'pair', (('left', 1), ('right', ('at', 'b')))), 'b': ('set', ())})
>>> merge(base, one, other)[0]['a']
('record', 'pair', (('left', 7), ('right', ('at', 'b'))))
"""

VERSIONS = """
>>> from samebytes.graphs import Graph
>>> from samebytes.versions import History
>>> history = History()
>>> told = (history.commit(Graph('a', {'a': ('set', (1,))})), history.commit(Graph('a', {'a': ('set', (1, 2))}), (0,)), history.commit(Graph('a', {'a': ('set', ())}), (0,)))
>>> (history.merge(1, 2), history[3]['a'], history.common(3, 2))
(3, ('set', (2,)), 2)
"""

JOURNALS = """
>>> from samebytes.graphs import Graph
>>> from samebytes.versions import History
>>> from samebytes.journals import journal, recover
>>> history = History()
>>> told = history.commit(Graph('a', {'a': ('set', (1,))}))
>>> (len(journal(history)), recover(journal(history)) == (history, 0), recover(journal(history)[:-1])[1])
(55, True, 54)
"""

CONSOLE = """
>>> from samebytes.console import Console
>>> console = Console()
>>> [console.execute(line) for line in ('new root a; a = set {@b, @c}; b = list []; c = list []', 'symmetries', 'pieces', 'new root z; z = set {@y, @x}; x = list []; y = list []', 'same 0')]
['0', '2', 'b c a', '1', 'same']
"""


class TestExamples(unittest.TestCase):

    def run_examples(self, name, text, number):
        test = doctest.DocTestParser().get_doctest(text, {}, name, name, 0)
        told = []
        failed, tried = doctest.DocTestRunner(verbose=False).run(test, out=told.append)
        self.assertEqual((failed, tried, "".join(told)), (0, number, ""))

    def test_objects(self):
        self.run_examples("objects", OBJECTS, 4)

    def test_graphs(self):
        self.run_examples("graphs", GRAPHS, 7)

    def test_texts(self):
        self.run_examples("texts", TEXTS, 3)

    def test_maps(self):
        self.run_examples("maps", MAPS, 4)

    def test_colours(self):
        self.run_examples("colours", COLOURS, 3)

    def test_papers(self):
        self.run_examples("papers", PAPERS, 9)

    def test_symmetries(self):
        self.run_examples("symmetries", SYMMETRIES, 11)

    def test_forms(self):
        self.run_examples("forms", FORMS, 4)

    def test_pieces(self):
        self.run_examples("pieces", PIECES, 3)

    def test_stores(self):
        self.run_examples("stores", STORES, 6)

    def test_views(self):
        self.run_examples("views", VIEWS, 7)

    def test_edits(self):
        self.run_examples("edits", EDITS, 7)

    def test_nearest(self):
        self.run_examples("nearest", NEAREST, 5)

    def test_merges(self):
        self.run_examples("merges", MERGES, 6)

    def test_versions(self):
        self.run_examples("versions", VERSIONS, 5)

    def test_journals(self):
        self.run_examples("journals", JOURNALS, 6)

    def test_console(self):
        self.run_examples("console", CONSOLE, 3)

    def test_readme(self):
        path = pathlib.Path(__file__).resolve().parent.parent / "README.md"
        self.run_examples("README", path.read_text(encoding="utf-8").replace("```", ""), 73)
