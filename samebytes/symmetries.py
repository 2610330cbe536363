"""Symmetries of a graph: their number, some that make up all, families, and papers of the number."""

from samebytes.checks import check_graph, check_marked
from samebytes.counts import count_paper, is_count_paper
from samebytes.errors import BadMap, LimitExceeded
from samebytes.graphs import check_mark
from samebytes.maps import is_kept
from samebytes.pairs import kept_map, named, search_of
from samebytes.searches import fixing, orbit

MOST_SYMMETRIES = 5040


def symmetries(graph, marked=()):
    """Return how many symmetries a graph with marked objects has, and a list of some that make up all."""
    check_graph(graph)
    check_marked(graph, marked)
    search = search_of(graph, marked)
    # Each symmetry is to be reached by carrying out some of them, also if there is one alone.
    found = search.symmetries or [list(range(len(graph)))]
    return (number_of(search), [named(graph.marks, images) for images in found])


def carried(graph, mark, target):
    """Return a symmetry that takes one mark to another one, or None."""
    check_graph(graph)
    check_mark(graph, mark)
    check_mark(graph, target)
    return kept_map(graph, graph, (mark,), (target,))


def families(graph, marked=()):
    """Return the families of a graph with marked objects."""
    check_graph(graph)
    check_marked(graph, marked)
    found = search_of(graph, marked).symmetries
    names = graph.marks
    told = {}
    members = []
    for point in range(len(names)):
        if point not in told:
            reached = orbit([point], found)
            told.update(reached)
            members.append([names[other] for other in sorted(reached)])
    return members


def number_paper(graph):
    """Return a paper of the number of symmetries."""
    check_graph(graph)
    return count_paper(graph)


def check_number(graph, number, value):
    """Tell whether any value is a paper of the number of symmetries that shows any value as number."""
    check_graph(graph)
    return is_count_paper(graph, number, value)


def made_by(graph, maps):
    """Return how many symmetries those of a list make up."""
    check_graph(graph)
    if not isinstance(maps, list) or not all([is_kept(graph, graph, images, (), ()) for images in maps]):
        raise BadMap(maps)
    points = {mark: point for point, mark in enumerate(graph)}
    told = {tuple(range(len(graph))): True}
    makers = []
    for images in maps:
        taken = tuple([points[images[mark]] for mark in graph])
        if taken not in told:
            makers.append(taken)
            told = made_up(makers)
    return len(told)


def number_of(search):
    """Return the number of symmetries: at each level of the best path, to how many points the next one is carried."""
    path = search.path()
    number = 1
    for level, point in enumerate(path):
        number *= len(orbit([point], fixing(search.symmetries, path[:level])))
    return number


def made_up(makers):
    """Return a dict whose keys are all symmetries that some make up, but no more than may be."""
    stay = tuple(range(len(makers[0])))
    told = {stay: True}
    waiting = [stay]
    while waiting:
        images = waiting.pop()
        for maker in makers:
            further = tuple([maker[image] for image in images])
            if further not in told:
                told[further] = True
                waiting.append(further)
        if len(told) > MOST_SYMMETRIES:
            raise LimitExceeded(MOST_SYMMETRIES)
    return told
