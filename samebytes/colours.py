"""Colourings of graphs: what looks alike by them, rounds and stable classes."""

from samebytes.checks import check_both_marked, check_graph, check_marked
from samebytes.errors import BadMap
from samebytes.graphs import check_mark
from samebytes.pairs import Pair, is_colouring
from samebytes.rounds import all_rounds, first_signs, members_of
from samebytes.webs import Web, graph_part, ranked


def look_alike(one, first, mark, other, second, target):
    """Tell whether two objects look alike by colourings of their graphs."""
    check_graph(one)
    check_colouring(one, first)
    check_mark(one, mark)
    check_graph(other)
    check_colouring(other, second)
    check_mark(other, target)
    pair = Pair(one, other)
    numbers = ranked(pair.joined(first, second))
    here = one.marks.index(mark)
    there = len(one) + other.marks.index(target)
    if pair.web.looks[here] != pair.web.looks[there]:
        return False
    return pair.web.ties(here, numbers) == pair.web.ties(there, numbers)


def rounds(one, other, marked=(), others=()):
    """Return the rounds of two graphs with marked objects, a list of pairs of colourings."""
    check_both_marked(one, other, marked, others)
    return Pair(one, other).rounds(marked, others)


def classes(graph, marked=()):
    """Return the stable classes of a graph with marked objects."""
    check_graph(graph)
    check_marked(graph, marked)
    names = graph.marks
    members = members_of(all_rounds(Web([graph_part(graph)]), first_signs(graph, marked))[-1])
    return sorted([[names[point] for point in points] for points in list(members.values())])


def check_colouring(graph, value):
    """Raise the error for any value that is no colouring of the graph."""
    if not is_colouring(graph, value):
        raise BadMap(value)
