"""The one text of a graph: equal for two graphs exactly if they are the same."""

from samebytes.checks import check_graph
from samebytes.pairs import search_of
from samebytes.texts import write


def one_text(graph):
    """Return the one text of a graph."""
    check_graph(graph)
    return write(graph.renamed(new_marks(graph)))


def numbering(graph):
    """Return the dict from the marks of a graph to those that they have in its one text."""
    check_graph(graph)
    return new_marks(graph)


def new_marks(graph):
    """Return the marks x0, x1 and so on, by the least order of the objects; the root comes first in each order."""
    names = graph.marks
    places = {names[point]: place for place, point in enumerate(search_of(graph, ()).order())}
    return {mark: f"x{places[mark]}" for mark in names}
