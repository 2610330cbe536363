"""Sameness of graphs with its papers: the maps that keep two graphs, or a paper of their difference."""

from samebytes.checks import check_both_marked, check_two
from samebytes.pairs import Pair, kept_map
from samebytes.proofs import difference_paper, is_difference_paper
from samebytes.rounds import first_signs
from samebytes.searches import Search, carriers
from samebytes.webs import Web, graph_part


def is_same(one, other):
    """Tell whether two graphs are the same."""
    check_two(one, other)
    return kept_map(one, other, (), ()) is not None


def sameness(one, other, marked=(), others=()):
    """Return a map that keeps two graphs with marked objects, or None."""
    check_both_marked(one, other, marked, others)
    return kept_map(one, other, marked, others)


def difference(one, other, marked=(), others=()):
    """Return a paper of difference of two graphs with marked objects, or None if a map keeps them."""
    check_both_marked(one, other, marked, others)
    if kept_map(one, other, marked, others) is not None:
        return None
    return difference_paper(Pair(one, other), marked, others)


def check_difference(one, other, value, marked=(), others=()):
    """Tell whether any value is a paper of difference of two graphs with marked objects."""
    check_both_marked(one, other, marked, others)
    return is_difference_paper(Pair(one, other), marked, others, value)


def every_map(one, other):
    """Go through all maps that keep two graphs, ascending by their images in the order of the marks of one."""
    check_two(one, other)
    first = kept_map(one, other, (), ())
    if first is None:
        return
    names = other.marks
    base = [names.index(first[mark]) for mark in one]
    levels = all_carriers(other, base)
    # Each map is the first one and then a symmetry: one carrier of each level, those of later levels first.
    waiting = [(0, list(range(len(base))))]
    while waiting:
        level, images = waiting.pop()
        if level == len(levels):
            yield {mark: names[images[point]] for mark, point in zip(one.marks, base)}
        else:
            further = [[images[point] for point in carrier] for carrier in levels[level]]
            # The last one is taken first, so the least image goes last.
            ordered = sorted([(taken[base[level]], taken) for taken in further], reverse=True)
            waiting.extend([(level + 1, taken) for _, taken in ordered])


def all_carriers(graph, base):
    """Return for each point of a base the symmetries that take it to all its images, and those before to themselves."""
    web = Web([graph_part(graph)])
    names = graph.marks
    levels = []
    for level, point in enumerate(base):
        marked = tuple([names[before] for before in base[:level]])
        symmetries = Search(web, first_signs(graph, marked)).symmetries
        if not symmetries:
            return levels
        levels.append(list(carriers(len(base), point, symmetries).values()))
    return levels
