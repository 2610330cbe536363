"""Histories: versions of graphs with their parents, and branches."""

from samebytes.checks import check_graph, check_name
from samebytes.errors import BadValue, UnknownVersion
from samebytes.merges import merge
from samebytes.objects import are_different, is_number

MOST_PARENTS = 2


class History:
    """Versions, numbered from 0, each with a graph and its parents, and branches, names with a version each."""

    def __init__(self):
        self._graphs = []
        self._parents = []
        self._branches = {}

    def __len__(self):
        return len(self._graphs)

    def __getitem__(self, number):
        check_version(self, number)
        return self._graphs[number]

    def __iter__(self):
        raise TypeError("a history is not iterated over: ask for its versions by their numbers")

    def __eq__(self, other):
        if not isinstance(other, History) or self._graphs != other._graphs:
            return False
        return self._parents == other._parents and self._branches == other._branches

    @property
    def branches(self):
        """A dict from the names of the branches to the numbers of their versions."""
        return dict(self._branches)

    def commit(self, graph, parents=()):
        """Add a version, and return its number."""
        check_graph(graph)
        if not are_parents(self, parents):
            raise BadValue(parents)
        self._graphs.append(graph)
        self._parents.append(tuple(parents))
        return len(self) - 1

    def parents(self, number):
        """Return the tuple of the parents of a version."""
        check_version(self, number)
        return self._parents[number]

    def comes_from(self, number, other):
        """Tell whether a version comes from another one."""
        check_version(self, number)
        check_version(self, other)
        return other in self.sources(number)

    def common(self, number, other):
        """Return the nearest common version of two versions, or None."""
        check_version(self, number)
        check_version(self, other)
        further = self.sources(other)
        return max([source for source in self.sources(number) if source in further], default=None)

    def merge(self, number, other):
        """Add the merge of two versions, and return its number."""
        base = self.common(number, other)
        if base is None:
            raise BadValue(other)
        graph, _ = merge(self[base], self[number], self[other])
        return self.commit(graph, (number,) if number == other else (number, other))

    def branch(self, name, number):
        """Set a branch."""
        check_name(name)
        check_version(self, number)
        self._branches[name] = number

    def sources(self, number):
        """Return a dict whose keys are all versions from which one comes."""
        told = {}
        waiting = [number]
        while waiting:
            source = waiting.pop()
            if source not in told:
                told[source] = True
                waiting.extend(self._parents[source])
        return told


def is_version(history, value):
    """Tell whether any value is the number of a version."""
    return is_number(value) and 0 <= value < len(history)


def check_version(history, value):
    """Raise the error for any value that is no number of a version."""
    if not is_version(history, value):
        raise UnknownVersion(value)


def are_parents(history, value):
    """Tell whether any value is what the parents of a next version can be."""
    if not isinstance(value, tuple) or len(value) > MOST_PARENTS:
        return False
    return all([is_version(history, number) for number in value]) and are_different(value)
