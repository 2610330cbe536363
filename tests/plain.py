"""What stores, edits, costs, merges, versions, journals and consoles are to tell, by plain second programs."""

import itertools
import re
from collections import Counter

from samebytes.errors import GraphError
from samebytes.graphs import Graph
from samebytes.texts import read, write
from tests import oracle
from tests.helpers import at

NOTHING = object()


# Graphs that come from one another.


def rooted(root, things):
    """The graph of all that can be reached from a root."""
    reached, waiting = set(), [root]
    while waiting:
        mark = waiting.pop()
        if mark not in reached:
            reached.add(mark)
            waiting.extend(worth[1] for worth in oracle.worths_of(things[mark]) if isinstance(worth, tuple))
    return Graph(root, {mark: things[mark] for mark in reached})


def a_graph(chance, least, most, kinds=("record", "list", "set", "dict")):
    """A random graph of so many objects."""
    while True:
        graph = oracle.random_graph(chance, 2 * most, kinds)
        if least <= len(graph) <= most:
            return graph


def random_worth(chance, marks):
    return at(chance.choice(marks)) if chance.random() < 0.5 else chance.choice((0, 1, -1, "x", "y", ""))


def nearly(chance, thing, marks):
    """An object with one part more, less or another one."""
    kind, parts = thing[0], list(thing[-1])
    if parts and chance.random() < 0.4:
        del parts[chance.randrange(len(parts))]
    if chance.random() < 0.7:
        worth = random_worth(chance, marks)
        if kind == "list":
            parts.insert(chance.randrange(len(parts) + 1), worth)
        elif kind == "set":
            parts = list(dict.fromkeys([*parts, worth]))
        else:
            key = chance.choice(("left", "right", "up")) if kind == "record" else random_worth(chance, marks)
            parts = list({**dict(parts), key: worth}.items())
    return (*thing[:-1], tuple(parts))


def random_change(chance, graph, marks, most=3):
    """The graph behind a change of some objects, perhaps new ones, and perhaps of the root."""
    things = {**{mark: ("list", ()) for mark in marks}, **graph.objects}
    for mark in chance.sample(marks, chance.randint(most // 2, most)):
        if mark in graph and chance.random() < 0.7:
            things[mark] = nearly(chance, things[mark], marks)
        else:
            things[mark] = oracle.random_thing(chance, marks, ("record", "list", "set", "dict"))
    return rooted(chance.choice(marks) if chance.random() < 0.08 else graph.root, things)


# (16)


def plain_cost(one, other, images):
    told = sum(mark not in images for mark in one) + sum(mark not in images.values() for mark in other)
    stay = {mark: mark for mark in other}
    for mark, image in images.items():
        used = [worth[1] for worth in oracle.worths_of(one[mark]) if isinstance(worth, tuple)]
        if not set(used) <= set(images) or oracle.moved(one[mark], images) != oracle.moved(other[image], stay):
            told += 1
    return told + (one.root not in images or images[one.root] != other.root)


def partial_maps(one, other):
    """All one-to-one maps of some marks."""
    for size in range(min(len(one), len(other)) + 1):
        for marks in itertools.combinations(one.marks, size):
            for images in itertools.permutations(other.marks, size):
                yield dict(zip(marks, images))


def sort_of(thing):
    """The own parts of an object, all references being alike."""
    blank = {worth[1]: 0 for worth in oracle.worths_of(thing) if isinstance(worth, tuple)}
    return repr([thing[0], thing[1] if thing[0] == "record" else "",
                 sorted(oracle.own(thing, blank)[-1].items(), key=repr) if thing[0] != "list" else oracle.own(thing, blank)[-1]])


def plain_bound(one, other):
    first, second = (Counter(sort_of(thing) for thing in graph.objects.values()) for graph in (one, other))
    return max(sum((first - second).values()), sum((second - first).values()))


# (17)


def spread(thing):
    """The places of an object for merging, with what stands there."""
    if thing is NOTHING:
        return {}
    places = {("object",): thing[:-1]}
    if thing[0] == "list":
        places[("items",)] = thing[1]
    for part in thing[-1]:
        if thing[0] == "set":
            places[("member", part)] = "there"
        if thing[0] in ("record", "dict"):
            places[("field" if thing[0] == "record" else "key", part[0])] = part[1]
    return places


def gathered(places):
    """The object with these places."""
    head = places[("object",)]
    if head[0] == "list":
        return (*head, places[("items",)])
    rest = {place[1]: worth for place, worth in places.items() if len(place) == 2}
    return (*head, tuple(rest if head[0] == "set" else rest.items()))


def choice(base, one, other):
    """(what the merge has at a place, where it is from), or None for a clash."""
    if one == other:
        return (one, "both")
    if one != base and other != base:
        return None
    return (one, "one") if other == base else (other, "other")


def rank(place):
    key = place[1] if len(place) > 1 else 0
    return (["object", "items", "field", "member", "key"].index(place[0]), isinstance(key, tuple), isinstance(key, str), key)


def plain_merge(base, one, other):
    """(clashes, root, all objects of the merge, all papers of objects)."""
    root = choice(base.root, one.root, other.root)
    clashes = [] if root else [(None, ("root",))]
    things, papers = {}, {}
    for mark in sorted({*base.marks, *one.marks, *other.marks}):
        first = base[mark] if mark in base else NOTHING
        told = [first] + [graph[mark] if mark in graph else first for graph in (one, other)]
        if len({thing[:-1] for thing in told if thing is not NOTHING}) > 1:
            taken = choice(*told)
            if taken is None:
                clashes.append((mark, ("object",)))
            else:
                things[mark] = taken[0]
                papers[mark] = dict.fromkeys(spread(taken[0]), taken[1])
            continue
        tables = [spread(thing) for thing in told]
        places, papers[mark] = {}, {}
        for place in sorted({place for table in tables for place in table}, key=rank):
            taken = choice(*[table.get(place, NOTHING) for table in tables])
            if taken is None:
                clashes.append((mark, place))
            elif taken[0] is not NOTHING:
                places[place], papers[mark][place] = taken
        if ("object",) in places and (places[("object",)][0] != "list" or ("items",) in places):
            things[mark] = gathered(places)
    return clashes, root and root[0], things, papers


# (19)


def number_of(text):
    return re.fullmatch("0|[1-9][0-9]{0,4}", text) is not None


def check_of(index, line):
    total = 31 * index
    for place in range(len(line)):
        total += ord(line[place]) * (place + 1)
    return total % 1000003


def signed(lines):
    """A text of lines with right check numbers."""
    return "".join(f"{line} #{check_of(index, line)}\n" for index, line in enumerate(lines))


def body_of(line, index):
    """A line without its check number, if that is right."""
    told = re.fullmatch("(.*) #([0-9]+)", line, re.DOTALL)
    if told and told[2] == f"{check_of(index, told[1])}":
        return told[1]
    return None


NUMBER = "(0|[1-9][0-9]{0,4})"
HEAD = f"{NUMBER} version (-|{NUMBER}(?:,{NUMBER})*) {NUMBER}"
BRANCH = f"branch ([a-z]{{1,8}}) {NUMBER}"
LINE = f"{NUMBER} (.*)"


def kind_of(line, index):
    """("head", V, parents, number), ("branch", name, V), ("line", V, text) or None."""
    body = body_of(line, index)
    if body is None:
        return None
    if told := re.fullmatch(HEAD, body):
        parents = [] if told[2] == "-" else [int(word) for word in told[2].split(",")]
        return ("head", int(told[1]), parents, int(body.split(" ")[-1]))
    if told := re.fullmatch(BRANCH, body):
        return ("branch", told[1], int(told[2]))
    if told := re.fullmatch(LINE, body, re.DOTALL):
        return ("line", int(told[1]), told[2])
    return None


def exact_graph(text):
    """The graph whose text (12) this is."""
    try:
        graph = read(text)
    except GraphError:
        return None
    return graph if write(graph) == text else None


def plain_recover(text):
    """(versions as (graph, parents), branches, lost)."""
    versions, branches = [], {}
    rest = text
    index = 0
    while True:
        lines = rest.split("\n")[:-1]
        told = kind_of(lines[0], index) if lines else None
        size = 0
        if told and told[0] == "head" and not branches and told[1] == len(versions):
            size = 1 + told[3]
            kinds = [kind_of(line, index + 1 + place) for place, line in enumerate(lines[1:size])]
            right = len(lines) >= size and all(kind and kind[:2] == ("line", told[1]) for kind in kinds)
            graph = exact_graph("\n".join(kind[2] for kind in kinds)) if right else None
            parents = told[2]
            if graph is None or len(set(parents)) != len(parents) or len(parents) > 2 or not all(parent < told[1] for parent in parents):
                size = 0
            else:
                versions.append((graph, tuple(parents)))
        if told and told[0] == "branch" and told[1] not in branches and told[2] < len(versions):
            branches[told[1]] = told[2]
            size = 1
        if not size:
            return versions, branches, len(rest)
        rest = "".join(line + "\n" for line in lines[size:]) + rest.split("\n")[-1]
        index += size


def plain_damage(text):
    """(the versions that can be told, the other numbers)."""
    told = [kind_of(line, index) for index, line in enumerate(text.split("\n"))]
    numbers = [kind[2] if kind[0] == "branch" else kind[1] for kind in told if kind]
    good = {}
    for number in set(numbers):
        heads = [kind for kind in told if kind and kind[:2] == ("head", number)]
        lines = [kind[2] for kind in told if kind and kind[:2] == ("line", number)]
        if len(heads) == 1 and heads[0][3] == len(lines):
            graph = exact_graph("\n".join(lines))
            if graph is not None:
                good[number] = graph
    return good, [number for number in range(max(numbers, default=-1) + 1) if number not in good]
