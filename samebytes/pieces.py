"""Pieces of graphs: the objects that can be reached from one another, their ports, and which pieces are alike."""

from samebytes.checks import check_graph
from samebytes.errors import BadPiece
from samebytes.graphs import depth_first
from samebytes.objects import marks_in, with_marks
from samebytes.pairs import search_map
from samebytes.searches import Search
from samebytes.texts import written_object
from samebytes.webs import Web


def pieces(graph):
    """Return the list of the pieces of a graph, each behind all to which it refers."""
    check_graph(graph)
    return all_pieces(graph)


def ports(graph, piece):
    """Return the ascending list of the ports of a piece."""
    check_graph(graph)
    check_piece(graph, piece)
    return ports_of(graph, piece)


def shape(graph, piece):
    """Return the text that a piece has in common with exactly the pieces that are alike to it."""
    check_graph(graph)
    check_piece(graph, piece)
    return placed_piece(graph, piece)[0]


def alike_pieces(one, piece, other, target):
    """Return a map of the objects and ports of a piece that shows it alike to another one, or None."""
    check_graph(one)
    check_piece(one, piece)
    check_graph(other)
    check_piece(other, target)
    search, names = piece_search(one, piece)
    further, images = piece_search(other, target)
    return search_map(names, search, images, further)


def check_piece(graph, piece):
    """Raise the error for any value that is no list of the marks of a piece, each once."""
    if not isinstance(piece, list) or not all([mark in graph for mark in piece]):
        raise BadPiece(piece)
    if sorted(piece) not in all_pieces(graph):
        raise BadPiece(piece)


def all_pieces(graph):
    """Return the list of the pieces: of those that could come next, the one with the least first mark comes."""
    things = graph.objects
    reached = {mark: depth_first(mark, things) for mark in graph}
    told = {}
    order = []
    while len(told) < len(graph):
        mark = next_mark(reached, told)
        piece = sorted([other for other in reached[mark] if mark in reached[other]])
        order.append(piece)
        told.update({other: True for other in piece})
    return order


def next_mark(reached, told):
    """Return the first mark that is not told, but all that it can reach, if that cannot reach it in its turn."""
    free = []
    for mark in reached:
        if mark not in told and all([other in told or mark in reached[other] for other in reached[mark]]):
            free.append(mark)
    return min(free)


def ports_of(graph, piece):
    """Return the ascending list of the marks outside a piece to which its objects refer."""
    return sorted({mark for source in piece for mark in marks_in(graph[source]) if mark not in piece})


def piece_search(graph, piece):
    """Return the search through the orders of a piece, objects first and then ports, and the list of their marks."""
    objects = sorted(piece)
    names = objects + ports_of(graph, piece)
    web = Web([(names, {mark: graph[mark] for mark in objects})])
    signs = [(0, ()) if place < len(objects) else (1, ()) for place in range(len(names))]
    return (Search(web, signs), names)


def placed_piece(graph, piece):
    """Return the shape of a piece, and the marks of its objects and those of its ports, in the order of the shape."""
    search, names = piece_search(graph, piece)
    order = [names[point] for point in search.order()]
    objects = order[:len(piece)]
    further = order[len(piece):]
    return (shape_text(graph, objects, further), objects, further)


def shape_text(graph, objects, further):
    """Return the text of a piece with its objects and ports in these orders as x0, x1 .. and as p0, p1 .."""
    marks = {mark: f"x{place}" for place, mark in enumerate(objects)}
    marks.update({mark: f"p{place}" for place, mark in enumerate(further)})
    return "\n".join([f"{marks[mark]} = {written_object(with_marks(graph[mark], marks))}" for mark in objects])
