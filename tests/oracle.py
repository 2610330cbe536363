"""The words of the document carried out in the plainest way, by trying all maps, to compare the program with."""

import itertools
import random
from collections import Counter

from samebytes.graphs import Graph
from tests.helpers import at


def is_number(value):
    return isinstance(value, int) and not isinstance(value, bool)


def shown(worth, colouring):
    """A worth, a reference told by its number."""
    return ("number", colouring[worth[1]]) if isinstance(worth, tuple) else worth


def own(thing, colouring):
    """What look alike objects have alike in themselves (8)."""
    kind = thing[0]
    if kind == "record":
        return (kind, thing[1], {name: shown(worth, colouring) for name, worth in thing[2]})
    if kind == "list":
        return (kind, [shown(worth, colouring) for worth in thing[1]])
    if kind == "set":
        return (kind, Counter(shown(worth, colouring) for worth in thing[1]))
    return (kind, Counter((shown(key, colouring), shown(worth, colouring)) for key, worth in thing[1]))


def referred(graph, colouring, mark):
    """How often an object is referred to, for each number and each way (8)."""
    ways = Counter()
    for source, thing in graph.objects.items():
        number = colouring[source]
        if thing[0] == "record":
            ways.update((number, "field", name) for name, worth in thing[2] if worth == at(mark))
        elif thing[0] == "list":
            ways.update((number, "index", index) for index, worth in enumerate(thing[1]) if worth == at(mark))
        elif thing[0] == "set":
            ways.update((number, "member") for worth in thing[1] if worth == at(mark))
        else:
            for key, worth in thing[1]:
                if key == at(mark):
                    ways[(number, "key", shown(worth, colouring))] += 1
                if worth == at(mark):
                    ways[(number, "worth", shown(key, colouring))] += 1
    return ways


def looks_alike(one, first, mark, other, second, target):
    return own(one[mark], first) == own(other[target], second) and \
        referred(one, first, mark) == referred(other, second, target)


def spots(graph, marked, mark):
    return (mark == graph.root, [place for place, marked_one in enumerate(marked) if marked_one == mark])


def alike_at_first(one, marked, mark, other, others, target):
    return spots(one, marked, mark) == spots(other, others, target) and \
        looks_alike(one, dict.fromkeys(one, 0), mark, other, dict.fromkeys(other, 0), target)


def joint_rounds(one, other, marked=(), others=()):
    """The rounds as a list of lists of classes, sets of (which graph, mark)."""
    points = [(0, mark) for mark in one] + [(1, mark) for mark in other]
    graphs, marks = (one, other), (marked, others)

    def parted(alike):
        told = []
        for point in points:
            for members in told:
                if alike(members[0], point):
                    members.append(point)
                    break
            else:
                told.append([point])
        return told

    def alike_first(here, there):
        return alike_at_first(graphs[here[0]], marks[here[0]], here[1], graphs[there[0]], marks[there[0]], there[1])

    rounds = [parted(alike_first)]
    while True:
        number = {point: index for index, members in enumerate(rounds[-1]) for point in members}
        colourings = [{mark: number[(which, mark)] for mark in graphs[which]} for which in (0, 1)]

        def alike(here, there):
            return number[here] == number[there] and looks_alike(
                graphs[here[0]], colourings[here[0]], here[1], graphs[there[0]], colourings[there[0]], there[1])

        further = parted(alike)
        if len(further) == len(rounds[-1]):
            return [sorted(map(sorted, members)) for members in rounds]
        rounds.append(further)


def moved(thing, images):
    """An object with its marks replaced, as something in which order counts just where it means something."""
    def moved_worth(worth):
        return at(images[worth[1]]) if isinstance(worth, tuple) else worth
    kind = thing[0]
    if kind == "record":
        return (kind, thing[1], {name: moved_worth(worth) for name, worth in thing[2]})
    if kind == "list":
        return (kind, [moved_worth(worth) for worth in thing[1]])
    if kind == "set":
        return (kind, {moved_worth(worth) for worth in thing[1]})
    return (kind, {moved_worth(key): moved_worth(worth) for key, worth in thing[1]})


def is_keeping(one, other, images, marked=(), others=()):
    """Tell whether a one-to-one map keeps two graphs."""
    stay = {mark: mark for mark in other}
    return images[one.root] == other.root and [images[mark] for mark in marked] == list(others) and \
        all(moved(one[mark], images) == moved(other[images[mark]], stay) for mark in one)


def all_maps(one, other, marked=(), others=()):
    """All maps that keep, in the order of their images."""
    if len(one) != len(other):
        return []
    marks = [mark for mark in one if mark != one.root]
    images = itertools.permutations([mark for mark in other if mark != other.root])
    maps = ({one.root: other.root, **dict(zip(marks, told))} for told in images)
    right = [told for told in maps if is_keeping(one, other, told, marked, others)]
    return sorted([{mark: told[mark] for mark in one} for told in right], key=lambda told: [told[mark] for mark in one])


def is_right_colouring(graph, value):
    if not isinstance(value, dict) or not all(isinstance(mark, str) for mark in value):
        return False
    return sorted(value) == graph.marks and all(is_number(number) and number >= 0 for number in value.values())


def faces(one, other, marked, others, before):
    """For each object of both graphs all that two must have alike to be left together behind a pair of colourings."""
    told = {}
    for side, (graph, marks) in enumerate(((one, marked), (other, others))):
        seen = before[side] if before else dict.fromkeys(graph, 0)
        for mark in graph:
            number = before[side][mark] if before else spots(graph, marks, mark)
            told[(side, mark)] = (number, own(graph[mark], seen), referred(graph, seen, mark))
    return told


def are_right_rounds(one, other, marked, others, rounds):
    """Tell whether no pair of a list parts objects that it may not part (9)."""
    for pair, before in zip(rounds, [None, *rounds]):
        told = faces(one, other, marked, others, before)
        for here, there in itertools.combinations(told, 2):
            if told[here] == told[there] and pair[here[0]][here[1]] != pair[there[0]][there[1]]:
                return False
    return True


def is_word(value, word):
    return isinstance(value, str) and value == word


def is_tuple(value, word, length):
    return isinstance(value, tuple) and len(value) == length and is_word(value[0], word)


def is_paper(one, other, value, marked=(), others=()):
    """Tell whether any value is a paper of difference (9)."""
    if not is_tuple(value, "bags", 2) and not is_tuple(value, "choose", 4):
        return False
    rounds = value[1]
    if not isinstance(rounds, list) or not all(isinstance(pair, tuple) and len(pair) == 2 for pair in rounds):
        return False
    if not all(is_right_colouring(one, first) and is_right_colouring(other, second) for first, second in rounds):
        return False
    if not are_right_rounds(one, other, marked, others, rounds):
        return False
    if value[0] == "bags":
        return bool(rounds) and Counter(rounds[-1][0].values()) != Counter(rounds[-1][1].values())
    _, _, mark, branches = value
    if not isinstance(mark, str) or mark not in one.marks or not isinstance(branches, dict):
        return False
    first, second = rounds[-1] if rounds else (dict.fromkeys(one, 0), dict.fromkeys(other, 0))
    if not all(isinstance(key, str) for key in branches):
        return False
    if sorted(branches) != [key for key in other if second[key] == first[mark]]:
        return False
    return all(is_branch(one, other, branches, key, (*marked, mark), others) for key in branches)


def is_branch(one, other, branches, key, marked, others):
    branch = branches[key]
    if not is_tuple(branch, "like", 3):
        return is_paper(one, other, branch, marked, (*others, key))
    _, like, images = branch
    if not isinstance(like, str) or like not in branches or like == key or is_tuple(branches[like], "like", 3):
        return False
    if not isinstance(images, dict) or not all(isinstance(mark, str) for mark in [*images, *images.values()]):
        return False
    if sorted(images) != other.marks or sorted(images.values()) != other.marks:
        return False
    return images[like] == key and is_keeping(other, other, images, others, others)


def finest(one, other, marked, others, before):
    """The pair of colourings that parts all that may be parted behind a pair, or None for the first one."""
    told = faces(one, other, marked, others, before)
    members = []
    pair = ({}, {})
    for (side, mark), face in told.items():
        if face not in members:
            members.append(face)
        pair[side][mark] = members.index(face)
    return pair


def any_rounds(chance, one, other, marked, others, loose):
    """Rounds that (9) allows: some pairs, perhaps coarser ones, with other numbers."""
    rounds = []
    for _ in range(chance.randrange(4) if loose else 9):
        first, second = finest(one, other, marked, others, rounds[-1] if rounds else None)
        number = len({*first.values(), *second.values()})
        names = chance.sample(range(100), number) if not loose or chance.random() < 0.5 else [chance.randrange(3) for _ in range(number)]
        rounds.append(tuple({mark: names[told] for mark, told in colouring.items()} for colouring in (first, second)))
    return rounds


def any_paper(chance, one, other, marked=(), others=(), loose=2):
    """Some paper of difference for graphs that no map keeps; loose tells for how many levels it is more than needed."""
    loose = max(0, loose - (chance.random() < 0.3))
    rounds = any_rounds(chance, one, other, marked, others, loose)
    first, second = rounds[-1] if rounds else (dict.fromkeys(one, 0), dict.fromkeys(other, 0))
    if rounds and Counter(first.values()) != Counter(second.values()) and (not loose or chance.random() < 0.8):
        return ("bags", rounds)
    number = Counter(first.values())
    mark = chance.choice([mark for mark in one if loose or number[first[mark]] > 1])
    branches = {}
    maps = all_maps(other, other, others, others)
    for key in [key for key in other if second[key] == first[mark]]:
        told = [(like, images) for like, images in itertools.product(branches, maps)
                if images[like] == key and like != key and branches[like][0] != "like"]
        if told and chance.random() < 0.9:
            branches[key] = ("like", *chance.choice(told))
        else:
            branches[key] = any_paper(chance, one, other, (*marked, mark), (*others, key), loose - 1 if loose else 0)
    keys = chance.sample(list(branches), len(branches))
    return ("choose", rounds, mark, {key: branches[key] for key in keys})


def parts_of(value, path=()):
    """All places in a value, as paths, with what stands there."""
    told = [(path, value)]
    if isinstance(value, (list, tuple)):
        for index, part in enumerate(value):
            told.extend(parts_of(part, (*path, index)))
    if isinstance(value, dict):
        for key, part in value.items():
            told.extend(parts_of(part, (*path, key)))
    return told


def put(value, path, part):
    """A copy of a value with something else at a place."""
    if not path:
        return part
    if isinstance(value, dict):
        return {key: put(told, path[1:], part) if key == path[0] else told for key, told in value.items()}
    copied = [put(told, path[1:], part) if index == path[0] else told for index, told in enumerate(value)]
    return tuple(copied) if isinstance(value, tuple) else copied


def bent(chance, value, marks):
    """A copy of a value with one thing in it bent."""
    path, part = chance.choice(parts_of(value))
    changes = [None, True, False, 0, 1, -1, "", "bags", "choose", "like", (), [], {}, chance.choice(marks), part, chance.randrange(3)]
    if isinstance(part, int):
        changes += [part + 1, part - 1, -part, str(part), (part,)] * 3 + [bool(part), float(part)]
    elif isinstance(part, str):
        changes += [chance.choice(marks) for _ in range(8)]
    elif isinstance(part, dict):
        keys = list(part)
        changes += [{key: part[key] for key in keys[1:]}, {**part, chance.choice(marks): 0}, {**part, None: 0}, list(part.items()),
                    dict(zip(keys, chance.sample(list(part.values()), len(keys)))), dict(zip(keys[::-1], part.values()))] * 2
    else:
        other = list(part)
        changes += [list(part), tuple(part), part[1:], part[:-1], part + part[-1:], other[::-1], tuple(other[::-1]), part + part] * 2
    return put(value, path, chance.choice(changes))


def random_thing(chance, marks, kinds):
    """An object with few plain values, so that many are alike."""
    def worth():
        return at(chance.choice(marks)) if chance.random() < 0.75 else chance.choice((0, "x"))
    kind = chance.choice(kinds)
    number = chance.randrange(4)
    if kind == "record":
        return (kind, "pair", tuple((name, worth()) for name in chance.sample(("left", "right", "up"), min(number, 2))))
    if kind == "list":
        return (kind, tuple(worth() for _ in range(number)))
    if kind == "set":
        return (kind, tuple(dict.fromkeys(worth() for _ in range(number))))
    return (kind, tuple({worth(): worth() for _ in range(number)}.items()))


def random_graph(chance, number, kinds=("record", "list", "set", "dict")):
    """A graph of at most that many objects."""
    marks = [f"m{index}" for index in range(number)]
    things = {mark: random_thing(chance, marks, kinds) for mark in marks}
    return Graph("m0", {mark: ("set", ()) for mark in marks[:1]}) + ("m0", things)


def shuffled(chance, graph):
    """The same graph with other marks, and another order of its objects and their parts."""
    names = [f"{letter}{index}" for index, letter in enumerate(chance.sample("abcdefghijklmnop" * 4, len(graph)))]
    images = dict(zip(graph.marks, names))
    renamed = graph.renamed(images)
    things = {}
    for mark in chance.sample(renamed.marks, len(renamed)):
        thing = renamed[mark]
        parts = thing[-1] if thing[0] == "list" else tuple(chance.sample(thing[-1], len(thing[-1])))
        things[mark] = (*thing[:-1], parts)
    return Graph(renamed.root, things)


def chances(seed):
    return random.Random(seed)


def shown_number(graph, value):
    """The number that any value shows as a paper of the number of symmetries (10), or None if it is none."""
    if not isinstance(value, list) or not value:
        return None
    marked, shown = (), 1
    for level in value[:-1]:
        if not is_level(graph, marked, level):
            return None
        marked, shown = (*marked, level[0]), shown * len(level[2])
    if not is_tuple(value[-1], "alone", 2) or not are_right_colours(graph, marked, value[-1][1]):
        return None
    rounds = value[-1][1]
    return shown if len(set(rounds[-1].values()) if rounds else {0}) == len(graph) else None


def are_right_colours(graph, marked, rounds):
    return isinstance(rounds, list) and all(is_right_colouring(graph, told) for told in rounds) and \
        are_right_rounds(graph, graph, marked, marked, [(told, told) for told in rounds])


def is_right_map(graph, images, marked):
    if not isinstance(images, dict) or not all(isinstance(mark, str) for mark in [*images, *images.values()]):
        return False
    return sorted(images) == graph.marks and sorted(images.values()) == graph.marks and is_keeping(graph, graph, images, marked, marked)


def is_level(graph, marked, level):
    if not isinstance(level, tuple) or len(level) != 4:
        return False
    mark, rounds, maps, papers = level
    if not isinstance(mark, str) or mark not in graph.marks or not are_right_colours(graph, marked, rounds):
        return False
    if not isinstance(maps, list) or not all(is_right_map(graph, images, marked) for images in maps):
        return False
    images = [told[mark] for told in maps]
    if mark not in images or len(set(images)) < len(images) or not isinstance(papers, dict):
        return False
    others = [key for key in graph if key not in images and (not rounds or rounds[-1][key] == rounds[-1][mark])]
    if not all(isinstance(key, str) for key in papers) or sorted(papers) != others:
        return False
    return all(is_paper(graph, graph, papers[key], (*marked, mark), (*marked, key)) for key in others)


def any_count(chance, graph):
    """Some paper of the number of symmetries of a graph, with other marks, rounds and more levels than are needed."""
    levels, marked = [], ()
    while True:
        rounds = [first for first, _ in any_rounds(chance, graph, graph, marked, marked, 0)]
        if len(set(rounds[-1].values())) == len(graph) and chance.random() < 0.7:
            if len(graph) == 1 and chance.random() < 0.5:
                rounds = []
            return [*levels, ("alone", rounds)]
        mark = chance.choice(graph.marks)
        rounds = [first for first, _ in any_rounds(chance, graph, graph, marked, marked, chance.randrange(2))]
        maps = {}
        for images in chance.sample(all_maps(graph, graph, marked, marked), len(all_maps(graph, graph, marked, marked))):
            maps[images[mark]] = images
        others = [key for key in graph if key not in maps and (not rounds or rounds[-1][key] == rounds[-1][mark])]
        papers = {key: any_paper(chance, graph, graph, (*marked, mark), (*marked, key), 1) for key in others}
        levels.append((mark, rounds, list(maps.values()), papers))
        marked = (*marked, mark)


def all_made(graph, maps):
    """All symmetries that some make up."""
    told = {tuple(graph.marks)}
    waiting = list(told)
    while waiting:
        images = waiting.pop()
        for further in maps:
            behind = tuple(further[mark] for mark in images)
            if behind not in told:
                told.add(behind)
                waiting.append(behind)
    return told


def plain_pieces(graph):
    """The pieces (13), in any order."""
    reached = {mark: set(graph.part(mark).marks) for mark in graph}
    return {tuple(sorted(other for other in reached[mark] if mark in reached[other])) for mark in graph}


def port_list(graph, piece):
    return sorted({worth[1] for mark in piece for worth in worths_of(graph[mark])
                   if isinstance(worth, tuple) and worth[1] not in piece})


def worths_of(thing):
    if thing[0] in ("list", "set"):
        return list(thing[1])
    if thing[0] == "record":
        return [worth for _, worth in thing[2]]
    return [worth for entry in thing[1] for worth in entry]


def is_showing(one, piece, other, target, images):
    """Tell whether a map shows two pieces alike (13)."""
    ports, further = port_list(one, piece), port_list(other, target)
    if sorted(images) != sorted([*piece, *ports]) or sorted(images.values()) != sorted([*target, *further]):
        return False
    stay = {mark: mark for mark in other}
    return sorted(images[mark] for mark in piece) == sorted(target) and \
        all(moved(one[mark], images) == moved(other[images[mark]], stay) for mark in piece)


def are_alike_pieces(one, piece, other, target):
    """Tell whether two pieces are alike, by trying all maps."""
    ports, further = port_list(one, piece), port_list(other, target)
    if (len(piece), len(ports)) != (len(target), len(further)):
        return False
    return any(is_showing(one, piece, other, target, {**dict(zip(piece, first)), **dict(zip(ports, second))})
               for first in itertools.permutations(target) for second in itertools.permutations(further))
