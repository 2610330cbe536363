"""The web of references between objects: their points, what each one has of its own, and how it hangs together."""


class Web:
    """Graphs or pieces side by side. Their objects, and the ports of pieces, are points, numbered from 0."""

    def __init__(self, parts):
        """Make the web of pairs: a list of marks, and a dict from marks to objects, in which those of ports lack."""
        self.own = [own_look(things.get(mark)) for names, things in parts for mark in names]
        self.looks = ranked(self.own)
        bonds = bonds_in(parts)
        self.ways = sorted({way for way, _ in bonds})
        self.single = [[] for _ in self.own]
        self.double = [[] for _ in self.own]
        ranks = {way: index for index, way in enumerate(self.ways)}
        for way, ends in bonds:
            self.tie(ranks[way], ends)
        self.near = [near_points(single, double) for single, double in zip(self.single, self.double)]

    def tie(self, rank, ends):
        """Tell each end of a bond of the others. A bond has its source and one target, or a key and its worth."""
        size = len(self.own)
        if len(ends) == 2:
            source, target = ends
            self.single[source].append((2 * rank * size, target))
            self.single[target].append(((2 * rank + 1) * size, source))
        else:
            source, key, worth = ends
            # Behind all numbers that a bond with one target can give.
            base = 2 * len(self.ways) * size
            self.double[source].append((base, key, worth))
            self.double[key].append((base + size * size, source, worth))
            self.double[worth].append((base + 2 * size * size, source, key))

    def ties(self, point, colour):
        """Return how a point hangs together with the colours of other ones: a number for each of its bonds."""
        size = len(self.own)
        single = [base + colour[end] for base, end in self.single[point]]
        double = [base + colour[end] * size + colour[further] for base, end, further in self.double[point]]
        return tuple(sorted(single + double))


def graph_part(graph):
    """Return the pair that makes a graph a part of a web."""
    return (graph.marks, graph.objects)


def ranked(keys):
    """Return for each key of a list its rank among them, equal ones having the same."""
    ranks = {key: index for index, key in enumerate(sorted(set(keys)))}
    return [ranks[key] for key in keys]


def own_look(thing):
    """Return what an object has of its own, in a form that can be sorted; None stands for a port."""
    if thing is None:
        return ("port", "", ())
    kind = thing[0]
    if kind == "record":
        return (kind, thing[1], tuple([(name, told(worth)) for name, worth in thing[2]]))
    if kind == "list":
        return (kind, "", tuple([told(worth) for worth in thing[1]]))
    if kind == "set":
        return (kind, "", tuple(sorted([told(worth) for worth in thing[1]])))
    return (kind, "", tuple(sorted([(told(key), told(worth)) for key, worth in thing[1]])))


def told(worth):
    """Return a worth in a form that can be sorted, all references being alike."""
    if isinstance(worth, tuple):
        return (2, 0)
    return (1, worth) if isinstance(worth, str) else (0, worth)


def bonds_in(parts):
    """Return the list of all bonds: pairs of a way of referring and a tuple of points, the source first."""
    bonds = []
    start = 0
    for names, things in parts:
        points = {mark: start + index for index, mark in enumerate(names)}
        for source in names:
            for way, marks in bonds_of(things.get(source)):
                bonds.append((way, tuple([points[source]] + [points[mark] for mark in marks])))
        start += len(names)
    return bonds


def bonds_of(thing):
    """Return the list of the ways in which an object refers to others, each with the tuple of their marks."""
    if thing is None:
        return []
    kind = thing[0]
    if kind == "dict":
        return [entry_bond(key, worth) for key, worth in thing[1] if told(key)[0] == 2 or told(worth)[0] == 2]
    if kind == "record":
        return [(("field", name), (worth[1],)) for name, worth in thing[2] if isinstance(worth, tuple)]
    ways = [("item", index) if kind == "list" else ("member", 0) for index in range(len(thing[1]))]
    return [(way, (worth[1],)) for way, worth in zip(ways, thing[1]) if isinstance(worth, tuple)]


def entry_bond(key, worth):
    """Return the bond of an entry whose key or worth is a reference, or both."""
    if not isinstance(worth, tuple):
        return (("key", told(worth)), (key[1],))
    if not isinstance(key, tuple):
        return (("worth", told(key)), (worth[1],))
    return (("entry", 0), (key[1], worth[1]))


def near_points(single, double):
    """Return the ascending list of the points to which bonds lead."""
    return sorted({end for _, end in single} | {end for bond in double for end in bond[1:]})
