"""Maps from the marks of one graph to those of another one, and whether they keep the graphs."""

from samebytes.checks import check_both_marked
from samebytes.errors import BadMap
from samebytes.objects import are_different, is_dict_of_marks, with_marks


def keeps(one, other, value, marked=(), others=()):
    """Tell whether any value is a map that keeps two graphs with marked objects."""
    check_both_marked(one, other, marked, others)
    return is_kept(one, other, value, marked, others)


def then(first, second):
    """Return the map that carries out one map and then another one."""
    check_map(first)
    check_map(second)
    if not all([image in second for image in list(first.values())]):
        raise BadMap(second)
    return {mark: second[image] for mark, image in first.items()}


def backwards(first):
    """Return the map from images to marks."""
    check_map(first)
    return {image: mark for mark, image in first.items()}


# What follows is for the other files.


def check_map(value):
    """Raise the error for any value that is no one-to-one dict from marks to marks."""
    if not is_dict_of_marks(value) or not are_different(list(value.values())):
        raise BadMap(value)


def is_kept(one, other, value, marked, others):
    """Tell the same as keeps does, of graphs and marked objects that are right."""
    if not is_map(one, other, value) or value[one.root] != other.root:
        return False
    if [value[mark] for mark in marked] != list(others):
        return False
    return all([with_marks(one[mark], value) == other[value[mark]] for mark in one])


def is_map(one, other, value):
    """Tell whether any value is a one-to-one dict from all marks of a graph to all marks of another one."""
    if not isinstance(value, dict) or len(value) != len(one) or len(one) != len(other):
        return False
    if not all([mark in one and value[mark] in other for mark in value]):
        return False
    return are_different(list(value.values()))
