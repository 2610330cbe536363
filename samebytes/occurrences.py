"""Occurrences: the pieces of a graph, each told by its shape, and the objects that can be read off them again."""

from samebytes.objects import with_marks
from samebytes.pieces import all_pieces, placed_piece
from samebytes.texts import read_line, words_of


def occurrences_of(graph):
    """Return the list of the occurrences of a graph: a shape, the marks of its objects, and a link for each port."""
    spots = {}
    told = []
    for number, piece in enumerate(all_pieces(graph)):
        shape, marks, ports = placed_piece(graph, piece)
        # Each piece comes behind all to which it refers, so the spots of its ports are known.
        told.append((shape, marks, [spots[port] for port in ports]))
        spots.update({mark: (number, place) for place, mark in enumerate(marks)})
    return told


def things_at(occurrences, number):
    """Return the dict from the marks of an occurrence to its objects."""
    shape, marks, links = occurrences[number]
    ports = [occurrences[link][1][place] for link, place in links]
    objects = {f"x{place}": mark for place, mark in enumerate(marks)}
    images = {**objects, **{f"p{place}": mark for place, mark in enumerate(ports)}}
    things = [read_line(words_of(line))[1] for line in shape.split("\n")]
    return {mark: with_marks(thing, images) for mark, thing in zip(marks, things)}
