"""The examples of the interface, as they are written there."""

import doctest
import pathlib
import unittest

OBJECTS = """
>>> from samebytes.objects import ordered
>>> ordered(('dict', ((('at', 'b'), 1), ('k', 2), (7, ('at', 'a')))))
('dict', ((7, ('at', 'a')), ('k', 2), (('at', 'b'), 1)))

>>> from samebytes.objects import places
>>> places(('record', 'pair', (('right', 5), ('left', ('at', 'b')))))
[(('field', 'left'), ('at', 'b')), (('field', 'right'), 5)]
"""

GRAPHS = """
>>> from samebytes.graphs import Graph
>>> graph = Graph('a', {'a': ('record', 'pair', (('left', ('at', 'b')), ('right', 5))), 'b': ('dict', (('k', ('at', 'a')),))})
>>> (graph(('left', 'k')), graph(('left', 'k', 'right')))
(('at', 'a'), 5)

>>> from samebytes.graphs import Graph
>>> one = Graph('a', {'a': ('set', (('at', 'b'), 3)), 'b': ('list', ())})
>>> other = Graph('a', {'a': ('set', (3,))})
>>> (one - other, (other + (None, {'a': ('list', (7,))}))['a'])
((None, {'a': ('set', (3, ('at', 'b'))), 'b': ('list', ())}), ('list', (7,)))
"""

TEXTS = r"""
>>> from samebytes.graphs import Graph
>>> from samebytes.texts import write
>>> write(Graph('a', {'a': ('record', 'pair', (('left', ('at', 'b')), ('right', -5))), 'b': ('set', ('x', ('at', 'a')))}))
"root a\na = record pair (left: @b, right: -5)\nb = set {'x', @a}"
"""

MAPS = """
>>> from samebytes.graphs import Graph
>>> from samebytes.maps import keeps
>>> one = Graph('a', {'a': ('list', (('at', 'a'), 1))})
>>> (keeps(one, one.renamed({'a': 'b'}), {'a': 'b'}), keeps(one, one, {}))
(True, False)
"""

COLOURS = """
>>> from samebytes.graphs import Graph
>>> from samebytes.colours import classes
>>> classes(Graph('a', {'a': ('set', (('at', 'b'), ('at', 'c'), ('at', 'd'))), 'b': ('list', ()), 'c': ('list', ()), 'd': ('list', (1,))}))
[['a'], ['b', 'c'], ['d']]
"""

PAPERS = """
>>> from samebytes.graphs import Graph
>>> from samebytes.papers import is_same
>>> one = Graph('a', {'a': ('set', (('at', 'b'), ('at', 'c'))), 'b': ('list', ()), 'c': ('list', ())})
>>> other = Graph('x', {'x': ('set', (('at', 'y'),)), 'y': ('list', ())})
>>> (is_same(one, other), is_same(one, one.renamed({'b': 'c', 'c': 'b'})), len(one))
(False, True, 3)

>>> from samebytes.graphs import Graph
>>> from samebytes.papers import difference
>>> one = Graph('a', {'a': ('list', (1,))})
>>> difference(one, Graph('b', {'b': ('list', (2,))}))
('bags', [({'a': 0}, {'b': 1})])
"""

SYMMETRIES = """
>>> from samebytes.graphs import Graph
>>> from samebytes.symmetries import symmetries
>>> symmetries(Graph('a', {'a': ('set', (('at', 'b'), ('at', 'c'), ('at', 'd'))), 'b': ('list', ()), 'c': ('list', ()), 'd': ('list', ())}))[0]
6

>>> from samebytes.graphs import Graph
>>> from samebytes.symmetries import check_number
>>> graph = Graph('a', {'a': ('set', (('at', 'b'), ('at', 'c'), ('at', 'd'))), 'b': ('list', ()), 'c': ('list', ()), 'd': ('list', ())})
>>> stay = {'a': 'a', 'b': 'b', 'c': 'c', 'd': 'd'}
>>> first = ('b', [{'a': 0, 'b': 1, 'c': 1, 'd': 1}], [stay, {'a': 'a', 'b': 'c', 'c': 'b', 'd': 'd'}, {'a': 'a', 'b': 'd', 'c': 'c', 'd': 'b'}], {})
>>> second = ('c', [{'a': 0, 'b': 1, 'c': 2, 'd': 2}], [stay, {'a': 'a', 'b': 'b', 'c': 'd', 'd': 'c'}], {})
>>> paper = [first, second, ('alone', [{'a': 0, 'b': 1, 'c': 2, 'd': 3}])]
>>> (check_number(graph, 6, paper), check_number(graph, 3, paper))
(True, False)
"""

FORMS = r"""
>>> from samebytes.graphs import Graph
>>> from samebytes.forms import one_text
>>> one = Graph('b', {'b': ('list', (('at', 'a'), ('at', 'a'))), 'a': ('set', ())})
>>> one_text(one)
'root x0\nx0 = list [@x1, @x1]\nx1 = set {}'
"""

PIECES = """
>>> from samebytes.graphs import Graph
>>> from samebytes.pieces import pieces
>>> pieces(Graph('a', {'a': ('list', (('at', 'b'), ('at', 'd'))), 'b': ('list', (('at', 'c'),)), 'c': ('set', (('at', 'b'), ('at', 'd'))), 'd': ('list', ())}))
[['d'], ['b', 'c'], ['a']]
"""


class TestExamples(unittest.TestCase):

    def run_examples(self, name, text, number):
        test = doctest.DocTestParser().get_doctest(text, {}, name, name, 0)
        told = []
        failed, tried = doctest.DocTestRunner(verbose=False).run(test, out=told.append)
        self.assertEqual((failed, tried, "".join(told)), (0, number, ""))

    def test_objects(self):
        self.run_examples("objects", OBJECTS, 4)

    def test_graphs(self):
        self.run_examples("graphs", GRAPHS, 7)

    def test_texts(self):
        self.run_examples("texts", TEXTS, 3)

    def test_maps(self):
        self.run_examples("maps", MAPS, 4)

    def test_colours(self):
        self.run_examples("colours", COLOURS, 3)

    def test_papers(self):
        self.run_examples("papers", PAPERS, 9)

    def test_symmetries(self):
        self.run_examples("symmetries", SYMMETRIES, 11)

    def test_forms(self):
        self.run_examples("forms", FORMS, 4)

    def test_pieces(self):
        self.run_examples("pieces", PIECES, 3)

    def test_readme(self):
        path = pathlib.Path(__file__).resolve().parent.parent / "README.md"
        self.run_examples("README", path.read_text(encoding="utf-8").replace("```", ""), 32)
