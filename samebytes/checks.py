"""Checks of the arguments that stand in many calls: each raises the error for a value that is wrong."""

from samebytes.errors import BadArgument, BadMarked, BadName
from samebytes.graphs import Graph
from samebytes.objects import is_name


def check_graph(value):
    """Raise the error for any value that is no graph."""
    if not isinstance(value, Graph):
        raise BadArgument(value)


def check_name(value):
    """Raise the error for any value that is no name."""
    if not is_name(value):
        raise BadName(value)


def check_marked(graph, marked):
    """Raise the error for any value as marked that is no tuple of marks of the graph."""
    if not are_marks(graph, marked):
        raise BadMarked(marked)


def check_two(one, other):
    """Raise the error for the first of two values that is no graph."""
    check_graph(one)
    check_graph(other)


def check_both_marked(one, other, marked, others):
    """Raise the error for the first wrong one of two graphs and their marked objects."""
    check_two(one, other)
    check_marked(one, marked)
    if not are_marks(other, others) or len(others) != len(marked):
        raise BadMarked(others)


def are_marks(graph, value):
    """Tell whether any value is a tuple of marks of a graph."""
    return isinstance(value, tuple) and all([mark in graph for mark in value])
