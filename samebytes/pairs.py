"""Two graphs side by side: their rounds, and the map that keeps them."""

from samebytes.objects import is_number
from samebytes.rounds import all_rounds, first_signs
from samebytes.searches import Search, carried_over
from samebytes.webs import Web, graph_part


class Pair:
    """Two graphs, and one web of both, in which the points of the second one come behind those of the first."""

    def __init__(self, one, other):
        self.one = one
        self.other = other
        self.web = Web([graph_part(one), graph_part(other)])

    def all_signs(self, marked, others):
        """Return for each point what tells it from others before all rounds."""
        return first_signs(self.one, marked) + first_signs(self.other, others)

    def rounds(self, marked, others):
        """Return the rounds as a list of pairs of colourings."""
        return [self.parted(colours) for colours in all_rounds(self.web, self.all_signs(marked, others))]

    def parted(self, colours):
        """Return the pair of colourings that give the marks the colours of their points."""
        first = dict(zip(self.one.marks, colours))
        return (first, dict(zip(self.other.marks, colours[len(first):])))

    def joined(self, first, second):
        """Return the list of the numbers of all points by two colourings."""
        return [first[mark] for mark in self.one] + [second[mark] for mark in self.other]


def is_colouring(graph, value):
    """Tell whether any value is a colouring of a graph."""
    if not isinstance(value, dict) or len(value) != len(graph):
        return False
    return all([mark in graph and is_number(value[mark]) and value[mark] >= 0 for mark in value])


def are_unlike_bags(first, second):
    """Tell whether two colourings give some number to unlike many objects."""
    return sorted(list(first.values())) != sorted(list(second.values()))


def search_of(graph, marked):
    """Return the search through the orders of a graph with marked objects."""
    return Search(Web([graph_part(graph)]), first_signs(graph, marked))


def kept_map(one, other, marked, others):
    """Return a map that keeps two graphs with these marked objects, or None if there is none."""
    pair = Pair(one, other)
    first, second = pair.rounds(marked, others)[-1]
    # A short way out, and a short way to the map, for most graphs that are not very much alike.
    if are_unlike_bags(first, second):
        return None
    if len(set(list(first.values()))) == len(one):
        images = {number: mark for mark, number in second.items()}
        return {mark: images[number] for mark, number in first.items()}
    return search_map(one.marks, search_of(one, marked), other.marks, search_of(other, others))


def search_map(names, search, images, further):
    """Return the map by the orders of two searches, names and images being what their points are called, or None."""
    if search.form() != further.form():
        return None
    return {names[point]: images[image] for point, image in enumerate(carried_over(search.order(), further.order()))}


def named(names, images):
    """Return the symmetry of points as a dict of what they are called."""
    return {names[point]: names[image] for point, image in enumerate(images)}
