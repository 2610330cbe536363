"""Stores: graphs under names, told by the shapes of their pieces, each of which is kept once."""

from samebytes.checks import check_graph, check_name
from samebytes.errors import NameTaken, UnknownName
from samebytes.graphs import Graph
from samebytes.objects import is_name
from samebytes.occurrences import occurrences_of, things_at


class Store:
    """Graphs under names. No graph is kept as it is: its occurrences tell it."""

    def __init__(self):
        self._kept = {}
        # For each shape a dict whose keys are the names of the graphs that have it.
        self._users = {}

    def __len__(self):
        return len(self._kept)

    def __contains__(self, value):
        return is_name(value) and value in self._kept

    @property
    def names(self):
        """The ascending list of the names."""
        return sorted(self._kept)

    @property
    def shapes(self):
        """The ascending list of the shapes that are kept."""
        return sorted(self._users)

    def put(self, name, graph):
        """Keep a graph under a name."""
        check_name(name)
        check_graph(graph)
        if name in self:
            raise NameTaken(name)
        occurrences = occurrences_of(graph)
        self._kept[name] = (graph.root, occurrences)
        for occurrence in occurrences:
            self._users.setdefault(occurrence[0], {})[name] = True

    def get(self, name):
        """Return the graph under a name."""
        root, occurrences = self.kept(name)
        things = [things_at(occurrences, number) for number in range(len(occurrences))]
        return Graph(root, {mark: told[mark] for told in things for mark in told})

    def drop(self, name):
        """Take the graph under a name away, and return it."""
        graph = self.get(name)
        _, occurrences = self._kept[name]
        for shape in sorted({occurrence[0] for occurrence in occurrences}):
            del self._users[shape][name]
            if not self._users[shape]:
                del self._users[shape]
        del self._kept[name]
        return graph

    def occurrences(self, name):
        """Return the list of the occurrences of the graph under a name."""
        return self.kept(name)[1]

    def users(self, shape):
        """Return the ascending list of the names of the graphs that have any value as a shape."""
        if not isinstance(shape, str) or shape not in self._users:
            return []
        return sorted(self._users[shape])

    def kept(self, name):
        """Return the root of the graph under a name, and its occurrences."""
        if name not in self:
            raise UnknownName(name)
        root, occurrences = self._kept[name]
        return (root, [(shape, list(marks), list(links)) for shape, marks, links in occurrences])
