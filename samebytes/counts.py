"""Papers of the number of symmetries: making one, and checking one without a search."""

from samebytes.maps import is_kept
from samebytes.objects import is_number
from samebytes.pairs import Pair, is_colouring, named
from samebytes.proofs import are_right_rounds, difference_paper, head, is_difference_paper
from samebytes.rounds import all_rounds, first_signs
from samebytes.searches import Search, carriers, fixing
from samebytes.webs import Web, graph_part


def count_paper(graph):
    """Return a paper of the number of symmetries of a graph."""
    pair = Pair(graph, graph)
    web = Web([graph_part(graph)])
    search = Search(web, first_signs(graph, ()))
    path = search.path()
    marked = tuple([graph.marks[point] for point in path])
    levels = []
    for level, point in enumerate(path):
        # Those of the search that fix the points before make up all symmetries that do.
        found = carriers(len(graph), point, fixing(search.symmetries, path[:level]))
        levels.append(count_level(pair, web, marked[:level], marked[level], found))
    return levels + [("alone", colourings(graph, web, marked))]


def colourings(graph, web, marked):
    """Return the rounds of a graph as a list of colourings."""
    return [dict(zip(graph.marks, colours)) for colours in all_rounds(web, first_signs(graph, marked))]


def count_level(pair, web, marked, mark, found):
    """Return a level: the maps found for all of a mark's family, and papers for all others with its number."""
    names = pair.one.marks
    rounds = colourings(pair.one, web, marked)
    maps = [named(names, images) for images in list(found.values())]
    others = [key for key in names if rounds[-1][key] == rounds[-1][mark] and names.index(key) not in found]
    papers = {key: difference_paper(pair, marked + (mark,), marked + (key,)) for key in others}
    return (mark, rounds, maps, papers)


def is_count_paper(graph, number, value):
    """Tell whether any value is a paper of the number of symmetries that shows any value as number."""
    if not isinstance(value, list) or not value or not is_number(number) or shown_number(value[:-1]) != number:
        return False
    pair = Pair(graph, graph)
    web = Web([graph_part(graph)])
    marked = ()
    for level in value[:-1]:
        if not is_level(pair, web, marked, level):
            return False
        marked = marked + (level[0],)
    return is_alone(graph, web, marked, value[-1])


def shown_number(levels):
    """Return the product of the numbers of maps of a list of any values as levels, or None if they have none."""
    number = 1
    for level in levels:
        if not isinstance(level, tuple) or len(level) != 4 or not isinstance(level[2], list):
            return None
        number = number * len(level[2])
    return number


def is_level(pair, web, marked, value):
    """Tell whether a tuple of four, the third one a list, is a level of a paper behind those of the marked objects."""
    mark, rounds, maps, papers = value
    if mark not in pair.one or not are_colours(pair.one, web, marked, rounds) or not isinstance(papers, dict):
        return False
    if not are_maps(pair.one, marked, mark, maps):
        return False
    images = [taken[mark] for taken in maps]
    keys = [key for key in pair.one if key not in images and (not rounds or rounds[-1][key] == rounds[-1][mark])]
    if not all([key in pair.one for key in papers]) or sorted(papers) != keys:
        return False
    for key in keys:
        if not is_difference_paper(pair, marked + (mark,), marked + (key,), papers[key]):
            return False
    return True


def are_maps(graph, marked, mark, value):
    """Tell whether a list has symmetries alone that take a mark to different ones, itself among them."""
    if not all([is_kept(graph, graph, taken, marked, marked) for taken in value]):
        return False
    images = [taken[mark] for taken in value]
    return mark in images and len(set(images)) == len(images)


def is_alone(graph, web, marked, value):
    """Tell whether any value is the end of a paper: rounds by which all objects have different numbers at last."""
    if head(value) != "alone" or len(value) != 2 or not are_colours(graph, web, marked, value[1]):
        return False
    if not value[1]:
        return len(graph) == 1
    return len(set(list(value[1][-1].values()))) == len(graph)


def are_colours(graph, web, marked, value):
    """Tell whether any value is a list of colourings of a graph that part no objects which look alike."""
    if not isinstance(value, list) or not all([is_colouring(graph, colouring) for colouring in value]):
        return False
    return are_right_rounds(web, first_signs(graph, marked), [[told[mark] for mark in graph] for told in value])
