"""Graphs of objects, the way through them, and the differences between them."""

from samebytes.errors import BadArgument, BadChange, BadMap, BadMark, BadObject, BadSteps
from samebytes.errors import LimitExceeded, MissingObject, NoPlace, UnknownMark, Unreachable
from samebytes.objects import are_different, arranged, is_dict_of_marks, is_mark, is_object, is_pair
from samebytes.objects import marks_in, with_marks, worth_at

MOST_OBJECTS = 60


class Graph:
    """A graph: a root, and objects with marks. It never changes."""

    def __init__(self, root, objects):
        if not is_mark(root):
            raise BadMark(root)
        check_objects(objects)
        check_whole(root, objects)
        self._root = root
        self._marks = sorted(objects)
        self._things = {mark: arranged(objects[mark]) for mark in self._marks}

    @property
    def root(self):
        """The mark of the root."""
        return self._root

    @property
    def marks(self):
        """The ascending list of the marks."""
        return list(self._marks)

    @property
    def objects(self):
        """A dict from the marks to the objects."""
        return dict(self._things)

    def __getitem__(self, mark):
        if mark not in self:
            raise UnknownMark(mark)
        return self._things[mark]

    def __contains__(self, value):
        return is_mark(value) and value in self._things

    def __len__(self):
        return len(self._marks)

    def __iter__(self):
        return iter(self._marks)

    def __eq__(self, other):
        return isinstance(other, Graph) and self._root == other._root and self._things == other._things

    def __call__(self, path):
        """Return the worth at which the steps of a path end that begins at the root."""
        return followed(path, self._root, lambda mark: self._things[mark])

    def walk(self):
        """Go through all marks, depth first."""
        yield from depth_first(self._root, self._things)

    def referrers(self, mark):
        """Return the ascending list of the marks whose objects refer to this one."""
        check_mark(self, mark)
        return [source for source in self._marks if mark in marks_in(self._things[source])]

    def part(self, mark):
        """Return the graph of all that can be reached from an object, with this as its root."""
        check_mark(self, mark)
        return Graph(mark, those_reached(mark, self._things))

    def renamed(self, marks):
        """Return the graph with some objects under other marks."""
        if not is_dict_of_marks(marks) or not all([mark in self for mark in marks]):
            raise BadMap(marks)
        images = {mark: marks.get(mark, mark) for mark in self._marks}
        if not are_different(list(images.values())):
            raise BadMap(marks)
        things = {images[mark]: with_marks(self._things[mark], images) for mark in self._marks}
        return Graph(images[self._root], things)

    def __sub__(self, other):
        if not isinstance(other, Graph):
            raise BadArgument(other)
        root = None if self._root == other._root else self._root
        changed = [mark for mark in self._marks if mark not in other or other[mark] != self._things[mark]]
        return (root, {mark: self._things[mark] for mark in changed})

    def __add__(self, other):
        if not is_change(other):
            raise BadChange(other)
        root, objects = other
        if root is None:
            root = self._root
        # What cannot be reached goes first: a graph counts, and asks for, only what is left.
        return Graph(root, those_reached(root, {**self._things, **objects}))


def followed(path, root, thing_of):
    """Return the worth at which the steps of a path end that begins at a root; a function tells the objects."""
    if not isinstance(path, tuple):
        raise BadSteps(path)
    worth = ("at", root)
    for index, step in enumerate(path):
        worth = worth_at(thing_of(worth[1]), step) if isinstance(worth, tuple) else None
        if worth is None:
            raise NoPlace(index)
    return worth


def is_change(value):
    """Tell whether any value is a change."""
    if not is_pair(value) or not isinstance(value[1], dict):
        return False
    if value[0] is not None and not is_mark(value[0]):
        return False
    return all([is_mark(mark) and is_object(value[1][mark]) for mark in value[1]])


def check_mark(graph, mark):
    """Raise the error for any value as mark that is no mark of the graph."""
    if not is_mark(mark):
        raise BadMark(mark)
    if mark not in graph:
        raise UnknownMark(mark)


def check_objects(objects):
    """Raise the error for any value that is no dict from marks to so many objects as a graph may have."""
    if not isinstance(objects, dict) or not all([is_mark(mark) for mark in objects]):
        raise BadMap(objects)
    for mark in sorted(objects):
        if not is_object(objects[mark]):
            raise BadObject(mark)
    if len(objects) > MOST_OBJECTS:
        raise LimitExceeded(len(objects))


def check_whole(root, objects):
    """Raise the error if an object lacks that is referred to, or one cannot be reached from the root."""
    if root not in objects:
        raise MissingObject(root)
    missing = [mark for source in objects for mark in marks_in(objects[source]) if mark not in objects]
    if missing:
        raise MissingObject(min(missing))
    reached = those_reached(root, objects)
    for mark in sorted(objects):
        if mark not in reached:
            raise Unreachable(mark)


def depth_first(root, things):
    """Return the list of the marks of all objects that can be reached from one and are there, depth first."""
    told = {}
    waiting = [root]
    while waiting:
        mark = waiting.pop()
        if mark in things and mark not in told:
            told[mark] = True
            # The last one is taken first, so the least mark goes last.
            waiting.extend(marks_in(things[mark])[::-1])
    return list(told)


def those_reached(root, things):
    """Return the dict of all objects that can be reached from one and are there."""
    return {mark: things[mark] for mark in depth_first(root, things)}
