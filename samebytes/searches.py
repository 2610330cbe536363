"""The search for the least order of the points of a web, and for the symmetries of the web."""

from samebytes.rounds import members_of
from samebytes.webs import ranked


class Search:
    """The way through the tree of orders. Where points do not differ, one of them is singled out, until none is left.

    A leaf of the tree has an order of all points. Two leaves that tell the same of them give a symmetry, and a part of
    the tree into which a symmetry carries one that is done needs no search. Points with unlike signs are never alike.
    The colour of a point is the number of points of less colours, so the last colours are the places in the order.
    """

    def __init__(self, web, signs):
        self.web = web
        self.signs = signs
        self.symmetries = []
        # What the parting told on the way to the best leaf, level by level.
        self.traces = []
        self.leaves = {}
        self.best = None
        colours, cells = first_cells(web, signs)
        part_all(web, colours, cells, list(range(len(colours))))
        self.explore(colours, cells, [])

    def explore(self, colours, cells, path):
        """Go through the orders below a node; return how long the path of the node is where the search goes on."""
        start = least_cell(cells)
        if start is None:
            return self.take(colours, path)
        reached = {}
        tried = []
        for point in list(cells[start]):
            if point not in reached:
                back = self.try_point(colours, cells, path, point)
                if back < len(path):
                    return back
                tried.append(point)
                reached = orbit(tried, fixing(self.symmetries, path))
        return len(path)

    def try_point(self, colours, cells, path, point):
        """Single out a point, and go on below, unless the best leaf is not to be found there."""
        below = list(colours)
        parts = dict(cells)
        single_out(below, parts, point)
        if not self.is_hopeful(len(path), part_all(self.web, below, parts, [point])):
            return len(path)
        return self.explore(below, parts, path + [point])

    def is_hopeful(self, level, trace):
        """Tell whether leaves with this trace may be as good as the best one; forget that one if they are better."""
        if level < len(self.traces) and trace > self.traces[level]:
            return False
        if level == len(self.traces) or trace < self.traces[level]:
            self.traces = self.traces[:level] + [trace]
            self.leaves = {}
            self.best = None
        return True

    def take(self, colours, path):
        """Take a leaf. If it tells the same as one before, go on where their ways part."""
        order = ordered_points(colours)
        told = tuple([self.web.ties(point, colours) for point in order])
        if told in self.leaves:
            before, way = self.leaves[told]
            self.symmetries.append(carried_over(before, order))
            return shared_length(way, path)
        self.leaves[told] = (order, path)
        if self.best is None or told < self.best:
            self.best = told
        return len(path)

    def order(self):
        """Return the list of the points in the least order."""
        return list(self.leaves[self.best][0])

    def path(self):
        """Return the list of the points that were singled out on the way to the least order."""
        return list(self.leaves[self.best][1])

    def form(self):
        """Return all that the least order tells: the same exactly for webs that are the same."""
        order = self.order()
        return (self.web.ways, [(self.signs[point], self.web.own[point]) for point in order], self.best)


def first_cells(web, signs):
    """Return the colours that tell apart what points are by themselves, and the dict from colours to their points."""
    members = members_of(ranked(list(zip(signs, web.looks))))
    colours = [0 for _ in web.own]
    cells = {}
    start = 0
    for points in list(members.values()):
        cells[start] = points
        for point in points:
            colours[point] = start
        start += len(points)
    return (colours, cells)


def least_cell(cells):
    """Return the colour with the fewest points, but more than one, or None."""
    sizes = [(len(points), start) for start, points in cells.items() if len(points) > 1]
    return min(sizes)[1] if sizes else None


def single_out(colours, cells, point):
    """Give a point a colour of its own, behind that of the others of its cell, to which nothing changes then."""
    start = colours[point]
    rest = [other for other in cells[start] if other != point]
    cells[start] = rest
    cells[start + len(rest)] = [point]
    colours[point] = start + len(rest)


def part_all(web, colours, cells, changed):
    """Part the cells until no cell has points that hang together otherwise; return the trace, what was told by that.

    Only near points of those with changed colours can have changed. Webs that are the same have the same traces.
    """
    trace = []
    while changed:
        touched = {colours[near]: True for point in changed for near in web.near[point]}
        changed = []
        for start in sorted(touched):
            changed.extend(part_cell(web, colours, cells, start, trace))
    return tuple(trace)


def part_cell(web, colours, cells, start, trace):
    """Part a cell; return the points that got other colours, and tell the trace what it was parted by."""
    groups = {}
    for point in cells[start]:
        groups.setdefault(web.ties(point, colours), []).append(point)
    changed = []
    place = start
    for ties in sorted(groups):
        members = groups[ties]
        trace.append((start, len(members), ties))
        cells[place] = members
        if place > start:
            changed.extend(members)
            for point in members:
                colours[point] = place
        place += len(members)
    return changed


def ordered_points(colours):
    """Return the list of points by their colours, which are all different."""
    order = [0 for _ in colours]
    for point, colour in enumerate(colours):
        order[colour] = point
    return order


def carried_over(before, behind):
    """Return the list that takes each point of one order to the point in the same place of another one."""
    images = [0 for _ in before]
    for point, image in zip(before, behind):
        images[point] = image
    return images


def shared_length(way, path):
    """Return how many points two paths have in common, from their beginnings."""
    length = 0
    while way[length] == path[length]:
        length += 1
    return length


def fixing(symmetries, points):
    """Return those symmetries that take all of some points to themselves."""
    return [images for images in symmetries if all([images[point] == point for point in points])]


def orbit(points, symmetries):
    """Return a dict whose keys are the points to which symmetries, one after another, take some points."""
    reached = {point: True for point in points}
    waiting = list(points)
    while waiting:
        point = waiting.pop()
        for images in symmetries:
            if images[point] not in reached:
                reached[images[point]] = True
                waiting.append(images[point])
    return reached


def carriers(size, point, symmetries):
    """Return the dict from each point, of so many, to which symmetries take one to one, made of them, that does so."""
    told = {point: list(range(size))}
    waiting = [point]
    while waiting:
        place = waiting.pop()
        for images in symmetries:
            if images[place] not in told:
                told[images[place]] = [images[image] for image in told[place]]
                waiting.append(images[place])
    return told
