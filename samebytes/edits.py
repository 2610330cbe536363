"""Editors: steps that change a graph, and can be undone."""

from samebytes.checks import check_graph, check_name
from samebytes.errors import BadObject, BadValue, LimitExceeded, NoPlace, NothingToUndo
from samebytes.forms import one_text
from samebytes.graphs import check_mark
from samebytes.objects import MOST_PARTS, is_number, is_worth


class Editor:
    """A graph and the steps that were made. What the steps lead to is kept as pairs of a graph and its one text."""

    def __init__(self, graph):
        check_graph(graph)
        self._now = (graph, one_text(graph))
        # No list of these is ever changed, so that a with statement can go back to the one that it began with.
        self._earlier = []
        self._first_now = self._now
        self._first_earlier = self._earlier

    @property
    def graph(self):
        """The graph of now."""
        return self._now[0]

    @property
    def text(self):
        """The one text of the graph of now."""
        return self._now[1]

    def __len__(self):
        return len(self._earlier)

    def set_field(self, mark, name, worth):
        """Set a field of a record, a new one, too."""
        check_mark(self.graph, mark)
        check_name(name)
        check_worth(worth)
        self.put_parts(mark, with_pair(parts_of(self.graph, mark, "record"), name, worth))

    def drop_field(self, mark, name):
        """Take a field of a record away."""
        check_mark(self.graph, mark)
        check_name(name)
        self.put_parts(mark, without_pair(parts_of(self.graph, mark, "record"), name))

    def set_item(self, mark, index, worth):
        """Put a worth in the place of an item of a list."""
        check_mark(self.graph, mark)
        check_index(index)
        check_worth(worth)
        items = parts_of(self.graph, mark, "list")
        check_place(index < len(items))
        self.put_parts(mark, (*items[:index], worth, *items[index + 1:]))

    def insert_item(self, mark, index, worth):
        """Put a worth ahead of an item of a list, or behind the last one."""
        check_mark(self.graph, mark)
        check_index(index)
        check_worth(worth)
        items = parts_of(self.graph, mark, "list")
        check_place(index <= len(items))
        self.put_parts(mark, (*items[:index], worth, *items[index:]))

    def drop_item(self, mark, index):
        """Take an item of a list away."""
        check_mark(self.graph, mark)
        check_index(index)
        items = parts_of(self.graph, mark, "list")
        check_place(index < len(items))
        self.put_parts(mark, (*items[:index], *items[index + 1:]))

    def add_member(self, mark, worth):
        """Add a member to a set, which may be there already."""
        check_mark(self.graph, mark)
        check_worth(worth)
        members = parts_of(self.graph, mark, "set")
        self.put_parts(mark, members if worth in members else (*members, worth))

    def drop_member(self, mark, worth):
        """Take a member of a set away."""
        check_mark(self.graph, mark)
        check_worth(worth)
        members = parts_of(self.graph, mark, "set")
        check_place(worth in members)
        self.put_parts(mark, tuple([member for member in members if member != worth]))

    def set_entry(self, mark, key, worth):
        """Set the worth of a key of a dict, a new one, too."""
        check_mark(self.graph, mark)
        check_worth(key)
        check_worth(worth)
        self.put_parts(mark, with_pair(parts_of(self.graph, mark, "dict"), key, worth))

    def drop_entry(self, mark, key):
        """Take an entry of a dict away."""
        check_mark(self.graph, mark)
        check_worth(key)
        self.put_parts(mark, without_pair(parts_of(self.graph, mark, "dict"), key))

    def carry_out(self, change):
        """Make a step of a whole change."""
        graph = self.graph + change
        self._earlier = self._earlier + [self._now]
        self._now = (graph, one_text(graph))

    def undo(self):
        """Undo the last step."""
        if not self._earlier:
            raise NothingToUndo()
        self._now = self._earlier[-1]
        self._earlier = self._earlier[:-1]

    def put_parts(self, mark, parts):
        """Make the step that gives an object other parts."""
        if len(parts) > MOST_PARTS:
            raise LimitExceeded(len(parts))
        self.carry_out((None, {mark: (*self.graph[mark][:-1], parts)}))

    def __enter__(self):
        self._first_now = self._now
        self._first_earlier = self._earlier
        return self

    def __exit__(self, kind, value, trace):
        if kind is not None:
            self._now = self._first_now
            self._earlier = self._first_earlier


def check_worth(value):
    """Raise the error for any value that is no worth."""
    if not is_worth(value):
        raise BadValue(value)


def check_index(value):
    """Raise the error for any value that is no integer from 0."""
    if not is_number(value) or value < 0:
        raise BadValue(value)


def check_place(is_there):
    """Raise the error if a place is not there."""
    if not is_there:
        raise NoPlace(0)


def parts_of(graph, mark, kind):
    """Return the parts of an object; raise the error if it is of another kind."""
    thing = graph[mark]
    if thing[0] != kind:
        raise BadObject(mark)
    return thing[-1]


def with_pair(pairs, key, worth):
    """Return fields or entries with one of them set."""
    return (*[pair for pair in pairs if pair[0] != key], (key, worth))


def without_pair(pairs, key):
    """Return fields or entries without one of them."""
    rest = tuple([pair for pair in pairs if pair[0] != key])
    check_place(len(rest) < len(pairs))
    return rest
