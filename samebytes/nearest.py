"""The cost of maps between graphs that are not the same, and the least one for small graphs."""

from samebytes.checks import check_two
from samebytes.errors import BadMap, LimitExceeded
from samebytes.maps import backwards
from samebytes.objects import are_different, marks_in, with_marks
from samebytes.webs import own_look

MOST_FOR_NEAREST = 6


def cost(one, other, value):
    """Return the cost of a one-to-one dict from marks of one graph to marks of another one."""
    check_two(one, other)
    if not is_partial_map(one, other, value):
        raise BadMap(value)
    return cost_of(one, other, value)


def nearest(one, other):
    """Return the least cost of all maps, and a map that has it."""
    check_two(one, other)
    for graph in (one, other):
        if len(graph) > MOST_FOR_NEAREST:
            raise LimitExceeded(len(graph))
    # A pair of objects that are both left out costs more than it does in the map, so the least cost is told by the maps
    # that leave out objects of the greater graph alone.
    maps = full_maps(one, other) if len(one) <= len(other) else [backwards(told) for told in full_maps(other, one)]
    least, index = min([(cost_of(one, other, told), index) for index, told in enumerate(maps)])
    return (least, {mark: maps[index][mark] for mark in sorted(maps[index])})


def cost_bound(one, other):
    """Return a number that no cost is below."""
    check_two(one, other)
    first = [own_look(one[mark]) for mark in one]
    second = [own_look(other[mark]) for mark in other]
    return max(surplus(first, second), surplus(second, first))


def is_partial_map(one, other, value):
    """Tell whether any value is a one-to-one dict from some marks of a graph to marks of another one."""
    if not isinstance(value, dict) or not all([mark in one and value[mark] in other for mark in value]):
        return False
    return are_different(list(value.values()))


def cost_of(one, other, images):
    """Return the cost of a map that is right."""
    left_out = len(one) + len(other) - 2 * len(images)
    changed = [mark for mark in images if not is_unchanged(one[mark], other[images[mark]], images)]
    return left_out + len(changed) + (0 if images.get(one.root) == other.root else 1)


def is_unchanged(thing, other, images):
    """Tell whether an object is the other one, with the marks of its references replaced; all are to be in the map."""
    return all([mark in images for mark in marks_in(thing)]) and with_marks(thing, images) == other


def full_maps(one, other):
    """Return the list of all one-to-one maps that take all marks of a graph to marks of another, not smaller one."""
    maps = [{}]
    for mark in one:
        maps = [{**told, mark: image} for told in maps for image in other if image not in list(told.values())]
    return maps


def surplus(looks, others):
    """Return of how many things of a list there are more than in another one, added up for all kinds of things."""
    return sum([max(0, looks.count(look) - others.count(look)) for look in sorted(set(looks))])
