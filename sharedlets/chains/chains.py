"""Rows of functions in unfoldings, anchors, and chains."""

from sharedlets.chains.rings import anchors_above, first_way, piece_down, ring_in, row_lengths
from sharedlets.checks import check_below
from sharedlets.errors import InvalidAddress, InvalidOperation
from sharedlets.families.families import check_family
from sharedlets.families.outlines import OWN, Outline, part_ranks_of, way_of
from sharedlets.looks.addresses import is_plain_address

MAX_WALKED = 50


def row_at(program, address):
    """The row at a place: addresses of functions, each one the anchor of the next one."""
    way = way_of(Outline(program), address)
    row = []
    copies = way[-1][1]
    while len(copies) > 0:
        lowest = max(copies)
        row.append(address[:lowest])
        copies = way[lowest][1]
    return tuple(row[::-1])


def anchors(family):
    """The ascending tuple of the pairs (anchor place, place) of the reached places."""
    check_family(family)
    outline = Outline(family)
    above = anchors_above(outline)
    pairs = [(outline.places[anchor], outline.places[number]) for number in above for anchor in above[number]]
    return tuple(sorted(pairs))


def longest_row(family):
    """The greatest number of functions in a row of the unfolding, or None if the family has a chain."""
    check_family(family)
    outline = Outline(family)
    above = anchors_above(outline)
    lengths = row_lengths(above)
    if len(lengths) < len(above):
        return None
    used = [lengths[number] for number in lengths if OWN in outline.wires[number][0]]
    return max(used, default=0)


def chain(family):
    """A chain of a family, or None."""
    check_family(family)
    outline = Outline(family)
    above = anchors_above(outline)
    ring = ring_in(above)
    if ring is None:
        return None
    pieces = [piece_down(outline, anchor, number) for anchor, number in zip(ring, ring[1:] + ring[:1])]
    return ("chain", first_way(outline.rows, outline.first, ring[0]), tuple(pieces))


def is_chain_form(value):
    """Whether the value is built like a chain, wherever it leads."""
    if not isinstance(value, tuple) or len(value) != 3 or value[0] != "chain" or not is_plain_address(value[1]):
        return False
    if not isinstance(value[2], tuple) or len(value[2]) == 0:
        return False
    return all([is_plain_address(piece) and len(piece) > 0 for piece in value[2]])


def _steps_of(paper, many):
    """The plain address behind the start and all pieces, gone through so many times."""
    _, start, pieces = paper
    return start + tuple([step for piece in pieces for step in piece]) * many


def _are_anchors(outline, way, paper):
    """Whether the start and each piece lead to a function, and each of these is the anchor of the next one."""
    _, start, pieces = paper
    length = len(start)
    if outline.marks[way[length][0]] != ("fun",):
        return False
    for piece in pieces:
        number, copies = way[length + len(piece)]
        if outline.marks[number] != ("fun",) or len(copies) == 0 or max(copies) != length:
            return False
        length += len(piece)
    return True


def is_chain(family, value):
    """Whether the value is a chain of a family."""
    check_family(family)
    if not is_chain_form(value):
        return False
    outline = Outline(family)
    try:
        way = way_of(outline, _steps_of(value, 1))
    except InvalidAddress:
        return False
    ranks = part_ranks_of(outline)
    return _are_anchors(outline, way, value) and ranks[way[len(value[1])][0]] == ranks[way[-1][0]]


def walked(family, paper, many):
    """The plain address behind all pieces of a chain, gone through so many times."""
    if not is_chain(family, paper):
        raise InvalidOperation("this is no chain of the family")
    check_below(many, MAX_WALKED + 1)
    return _steps_of(paper, many)
