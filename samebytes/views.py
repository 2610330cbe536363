"""Views: graphs of a store, of which only the pieces are loaded that are asked for."""

from samebytes.errors import BadArgument, UnknownMark
from samebytes.graphs import followed
from samebytes.objects import is_mark
from samebytes.occurrences import things_at
from samebytes.stores import Store


class View:
    """A graph as it was kept when the view was made."""

    def __init__(self, store, name):
        if not isinstance(store, Store):
            raise BadArgument(store)
        root, occurrences = store.kept(name)
        self._root = root
        self._occurrences = occurrences
        self._numbers = {mark: number for number, told in enumerate(occurrences) for mark in told[1]}
        self._things = {}
        self._pieces = []

    @property
    def root(self):
        """The mark of the root."""
        return self._root

    @property
    def loaded(self):
        """The list of the pieces that are loaded, in the order of loading."""
        return [list(piece) for piece in self._pieces]

    def thing(self, mark):
        """Return the object with a mark."""
        if not is_mark(mark) or mark not in self._numbers:
            raise UnknownMark(mark)
        return self.load(mark)

    def __call__(self, path):
        """Return the worth at which the steps of a path end that begins at the root."""
        return followed(path, self._root, lambda mark: self.load(mark))

    def __iter__(self):
        raise TypeError("a view is not iterated over: it would load the whole graph")

    def load(self, mark):
        """Return the object with a mark of the graph, whose piece is loaded behind that."""
        if mark not in self._things:
            things = things_at(self._occurrences, self._numbers[mark])
            self._things.update(things)
            self._pieces.append(sorted(things))
        return self._things[mark]
