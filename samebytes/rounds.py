"""Rounds: colours of the points of a web that tell them apart by how they hang together, more and more."""

from samebytes.webs import ranked


def first_signs(graph, marked):
    """Return for each mark of a graph what tells it from others before all rounds; that of the root comes first."""
    places = {mark: () for mark in graph}
    for place, mark in enumerate(marked):
        places[mark] = places[mark] + (place,)
    return [(0 if mark == graph.root else 1, places[mark]) for mark in graph]


def first_colours(web, signs):
    """Return the colours by which two points have the same one exactly if they look alike at first."""
    alike = [0 for _ in web.own]
    return next_colours(web, ranked(list(zip(signs, web.looks))), alike)


def next_colours(web, colours, seen):
    """Return the colours that part those of one colour that do not look alike by the colours that are seen."""
    return ranked([(colour, web.ties(point, seen)) for point, colour in enumerate(colours)])


def all_rounds(web, signs):
    """Return the list of colours, round by round, until a further round would part no more points."""
    told = [first_colours(web, signs)]
    further = next_colours(web, told[-1], told[-1])
    while max(further) > max(told[-1]):
        told.append(further)
        further = next_colours(web, further, further)
    return told


def members_of(colours):
    """Return the dict from each colour, ascending, to the ascending list of its points."""
    members = {colour: [] for colour in sorted(set(colours))}
    for point, colour in enumerate(colours):
        members[colour].append(point)
    return members
