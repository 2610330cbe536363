"""The examples of the interface, as they are written there."""

import doctest
import pathlib
import unittest

OBJECTS = """
>>> from samebytes.objects import ordered
>>> ordered(('dict', ((('at', 'b'), 1), ('k', 2), (7, ('at', 'a')))))
('dict', ((7, ('at', 'a')), ('k', 2), (('at', 'b'), 1)))

>>> from samebytes.objects import places
>>> places(('record', 'pair', (('right', 5), ('left', ('at', 'b')))))
[(('field', 'left'), ('at', 'b')), (('field', 'right'), 5)]
"""

GRAPHS = """
>>> from samebytes.graphs import Graph
>>> graph = Graph('a', {'a': ('record', 'pair', (('left', ('at', 'b')), ('right', 5))), 'b': ('dict', (('k', ('at', 'a')),))})
>>> (graph(('left', 'k')), graph(('left', 'k', 'right')))
(('at', 'a'), 5)

>>> from samebytes.graphs import Graph
>>> one = Graph('a', {'a': ('set', (('at', 'b'), 3)), 'b': ('list', ())})
>>> other = Graph('a', {'a': ('set', (3,))})
>>> (one - other, (other + (None, {'a': ('list', (7,))}))['a'])
((None, {'a': ('set', (3, ('at', 'b'))), 'b': ('list', ())}), ('list', (7,)))
"""


class TestExamples(unittest.TestCase):

    def run_examples(self, name, text, number):
        test = doctest.DocTestParser().get_doctest(text, {}, name, name, 0)
        told = []
        failed, tried = doctest.DocTestRunner(verbose=False).run(test, out=told.append)
        self.assertEqual((failed, tried, "".join(told)), (0, number, ""))

    def test_objects(self):
        self.run_examples("objects", OBJECTS, 4)

    def test_graphs(self):
        self.run_examples("graphs", GRAPHS, 7)

    def test_readme(self):
        path = pathlib.Path(__file__).resolve().parent.parent / "README.md"
        self.run_examples("README", path.read_text(encoding="utf-8").replace("```", ""), 12)
