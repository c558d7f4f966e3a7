"""Addresses, and what stands at the places to which they lead."""

from sharedlets.checks import check_below, is_below
from sharedlets.errors import InvalidAddress, InvalidOperation, TooMany
from sharedlets.graphs.graphs import check_graph
from sharedlets.looks.walks import Walk
from sharedlets.terms.terms import MAX_TERMS

MAX_TIMES = 10 ** 30

MAX_STEPS = 1000


def is_plain_address(value):
    """Whether the value is a tuple of numbers of children, so an address without pairs."""
    return isinstance(value, tuple) and all([is_below(step, MAX_TERMS) for step in value])


def _is_piece(value):
    """Whether the value is a tuple of one or more numbers of children."""
    return is_plain_address(value) and len(value) > 0


def _is_pair(value):
    """Whether the value is a pair (piece, times)."""
    if not isinstance(value, tuple) or len(value) != 2:
        return False
    return _is_piece(value[0]) and is_below(value[1], MAX_TIMES + 1)


def is_address(value):
    """Whether the value has the form of an address."""
    if not isinstance(value, tuple):
        return False
    return all([is_below(element, MAX_TERMS) or _is_pair(element) for element in value])


def _check_form(address):
    if not is_address(address):
        raise InvalidAddress("this has not the form of an address")


def _steps_in(element):
    """How many steps an element of an address has."""
    if isinstance(element, tuple):
        return len(element[0]) * element[1]
    return 1


def length_of(address):
    """The number of the steps of an address."""
    _check_form(address)
    return sum([_steps_in(element) for element in address])


def plain(address):
    """The plain address with the same steps."""
    if length_of(address) > MAX_STEPS:
        raise TooMany(MAX_STEPS)
    steps = []
    for element in address:
        steps.extend(element[0] * element[1] if isinstance(element, tuple) else (element,))
    return tuple(steps)


def _beginning(pair, many):
    """The elements for the first steps of a pair, fewer than all of them."""
    piece, _ = pair
    rounds, further = divmod(many, len(piece))
    whole = [(piece, rounds)] if rounds > 0 else []
    return whole + list(piece[:further])


def cut(address, length):
    """An address with the first steps of this one, so many."""
    most = length_of(address)
    check_below(length, most + 1)
    kept = []
    left = length
    for element in address:
        if left == 0:
            break
        many = _steps_in(element)
        if many <= left:
            kept.append(element)
            left -= many
        else:
            kept.extend(_beginning(element, left))
            left = 0
    return tuple(kept)


def walk_to(graph, address):
    """The walk of an address, at its end."""
    check_graph(graph)
    _check_form(address)
    walk = Walk(graph)
    walk.follow(address)
    return walk


def look(graph, address):
    """The look of the place at an address."""
    walk = walk_to(graph, address)
    node = graph[walk.node]
    if node[0] == "word":
        return ("word", node[1], len(node[2]))
    if node[0] == "fun":
        return ("fun",)
    return ("var", walk.length - walk.copies[-1])


def node_at(graph, address):
    """The number of the node at an address."""
    return walk_to(graph, address).node


def copies_at(graph, address):
    """The lengths of the addresses of the nearest copies of the functions in the scope of the node at a place."""
    return tuple(walk_to(graph, address).copies)


def owner_at(graph, address):
    """The address of the function to which the variable at an address belongs."""
    walk = walk_to(graph, address)
    if graph[walk.node][0] != "var":
        raise InvalidOperation("no variable stands there")
    return cut(address, walk.copies[-1])
