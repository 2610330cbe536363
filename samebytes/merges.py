"""Merges of two graphs that come from one base, place by place, with papers that tell where each place comes from."""

from samebytes.checks import check_graph, check_two
from samebytes.errors import Clash, LimitExceeded
from samebytes.graphs import Graph, those_reached
from samebytes.objects import MOST_PARTS, is_mark, is_worth, worth_order

OBJECT = ("object",)
ITEMS = ("items",)
ROOT = ("root",)


def merge(base, one, other):
    """Return the merge of two graphs that come from a base, and its paper."""
    check_three(base, one, other)
    return merged(base, one, other)


def clashes(base, one, other):
    """Return the list of the clashes of two graphs that come from a base."""
    check_three(base, one, other)
    return clashes_in(rooted(base, one, other), all_rows(base, one, other))


def check_merge(base, one, other, value, paper):
    """Tell whether any value is a graph that is equal to the merge, and any value as paper is its paper."""
    check_three(base, one, other)
    try:
        graph, right = merged(base, one, other)
    except (Clash, LimitExceeded):
        return False
    return isinstance(value, Graph) and value == graph and is_merge_paper(paper, right)


def check_three(base, one, other):
    """Raise the error for the first of three values that is no graph."""
    check_graph(base)
    check_two(one, other)


def merged(base, one, other):
    """Return the merge of three graphs, and its paper."""
    root = rooted(base, one, other)
    rows = all_rows(base, one, other)
    found = clashes_in(root, rows)
    if found:
        raise Clash(found)
    things = those_reached(root[0], {mark: joined(rows[mark]) for mark in rows})
    for mark in sorted(things):
        if len(things[mark][-1]) > MOST_PARTS:
            raise LimitExceeded(len(things[mark][-1]))
    graph = Graph(root[0], things)
    return (graph, {mark: {place: word for place, _, word in rows[mark]} for mark in graph})


def settled(before, here, there):
    """Return what the merge has at a place, and the word for where it comes from; the word is None for a clash.

    What the base and the two sides have there is anything that can be compared, None for nothing.
    """
    if here == there:
        return (here, "both")
    if there == before:
        return (here, "one")
    if here == before:
        return (there, "other")
    return (None, None)


def rooted(base, one, other):
    """Return the root of the merge and the word for where it comes from, as settled does."""
    return settled(base.root, one.root, other.root)


def all_rows(base, one, other):
    """Return the dict from all marks of three graphs, ascending, to the rows of their objects."""
    rows = {}
    for mark in sorted(set(base.marks) | set(one.marks) | set(other.marks)):
        before = thing_in(base, mark, None)
        rows[mark] = rows_of(before, thing_in(one, mark, before), thing_in(other, mark, before))
    return rows


def thing_in(graph, mark, before):
    """Return what an object counts as in a graph: if that has it not, it is as it was before."""
    return graph[mark] if mark in graph else before


def rows_of(before, here, there):
    """Return the rows (place, what the merge has there, word) of an object; those without anything are left out."""
    heads = [thing[:-1] for thing in (before, here, there) if thing is not None]
    if len(set(heads)) > 1:
        return whole_rows(before, here, there)
    first, second, third = merge_places(before), merge_places(here), merge_places(there)
    rows = []
    for place in sorted({**first, **second, **third}, key=place_order):
        told, word = settled(first.get(place), second.get(place), third.get(place))
        if word is None or told is not None:
            rows.append((place, told, word))
    return rows


def whole_rows(before, here, there):
    """Return the rows of an object that is one place as a whole."""
    thing, word = settled(before, here, there)
    if word is None:
        return [(OBJECT, None, None)]
    return [(place, told, word) for place, told in merge_places(thing).items()]


def merge_places(thing):
    """Return the dict from the places of an object for merging, in their order, to what stands there."""
    if thing is None:
        return {}
    kind = thing[0]
    head = {OBJECT: thing[:-1]}
    if kind == "list":
        return {**head, ITEMS: thing[1]}
    if kind == "set":
        return {**head, **{("member", worth): worth for worth in thing[1]}}
    word = "field" if kind == "record" else "key"
    return {**head, **{(word, key): worth for key, worth in thing[-1]}}


def place_order(place):
    """Return what a place is sorted by: the object, then all items, then fields by name, members and keys as worths."""
    if len(place) == 2:
        return (2, worth_order(place[1]))
    return (0,) if place == OBJECT else (1,)


def joined(rows):
    """Return the object that has what its rows tell. The first one is that of its kind and name."""
    head = rows[0][1]
    if head[0] == "list":
        return (*head, rows[1][1])
    if head[0] == "set":
        return (*head, tuple([row[1] for row in rows[1:]]))
    return (*head, tuple([(place[1], worth) for place, worth, _ in rows[1:]]))


def clashes_in(root, rows):
    """Return the list of clashes: that of the root, then those of the rows of all marks, which ascend."""
    found = [(None, ROOT)] if root[1] is None else []
    for mark in rows:
        found.extend([(mark, place) for place, _, word in rows[mark] if word is None])
    return found


def is_merge_paper(value, right):
    """Tell whether any value is a dict from the marks of a right paper to dicts that tell the same."""
    if not isinstance(value, dict) or len(value) != len(right):
        return False
    return all([is_mark(mark) and mark in right and are_words(value[mark], right[mark]) for mark in value])


def are_words(value, right):
    """Tell whether any value is a dict that tells the same word at each place as a right one."""
    if not isinstance(value, dict) or len(value) != len(right):
        return False
    return all([is_place(place) and place in right and is_word(value[place], right[place]) for place in value])


def is_place(value):
    """Tell whether any value has the form of a place; to Python, some that have not would be equal to one that has."""
    if not isinstance(value, tuple) or not value or not isinstance(value[0], str):
        return False
    return all([is_worth(part) for part in value[1:]])


def is_word(value, right):
    """Tell whether any value is the same word as a right one."""
    return isinstance(value, str) and value == right
