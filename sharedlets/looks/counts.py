"""Counts of the places of the unfolding of a graph, and their numbers."""

from sharedlets.checks import check_below, check_many
from sharedlets.errors import TooMany
from sharedlets.graphs.graphs import check_graph
from sharedlets.graphs.nodes import children_of
from sharedlets.looks.addresses import plain, walk_to

MAX_DEPTH = 1000


def _check_depth(depth):
    if depth > MAX_DEPTH:
        raise TooMany(MAX_DEPTH)


def _rows_of(graph):
    """For each node its children."""
    return [children_of(node) for node in graph]


def _next_times(rows, times):
    """How many places each node has at the next depth, if it has so many at this one."""
    further = [0 for _ in rows]
    for node, row in enumerate(rows):
        for child in row:
            further[child] += times[node]
    return further


def _first_times(rows):
    """How many places each node has at depth 0."""
    return [1 if node == 0 else 0 for node in range(len(rows))]


def _times_at(graph, depth):
    """How many places each node has at a depth."""
    rows = _rows_of(graph)
    times = _first_times(rows)
    for _ in range(depth):
        times = _next_times(rows, times)
    return times


def level_size(graph, depth):
    """How many places of a depth there are."""
    check_graph(graph)
    check_many(depth)
    _check_depth(depth)
    return sum(_times_at(graph, depth))


def level_sizes(graph, depth):
    """Yield how many places there are, for each depth from 0 to this one."""
    check_graph(graph)
    check_many(depth)
    _check_depth(depth)
    rows = _rows_of(graph)
    times = _first_times(rows)
    yield sum(times)
    for _ in range(depth):
        times = _next_times(rows, times)
        yield sum(times)


def node_times(graph, node, depth):
    """How many places of a depth have this node."""
    check_graph(graph)
    check_below(node, len(graph))
    check_many(depth)
    _check_depth(depth)
    return _times_at(graph, depth)[node]


def first_address(graph, node):
    """The first plain address that leads to a node."""
    check_graph(graph)
    check_below(node, len(graph))
    addresses = {0: ()}
    order = [0]
    at = 0
    # The nodes stand in the order of their first addresses, so the addresses that are found ascend.
    while node not in addresses:
        around = order[at]
        at += 1
        for place, child in enumerate(children_of(graph[around])):
            if child not in addresses:
                addresses[child] = addresses[around] + (place,)
                order.append(child)
    return addresses[node]


def _sizes_below(rows, depth):
    """For each depth up to this one a list: how many places of this depth below it each node has."""
    sizes = [[1 for _ in rows]]
    for _ in range(depth):
        nearer = sizes[-1]
        sizes.append([sum([nearer[child] for child in row]) for row in rows])
    return sizes


def number_of(graph, address):
    """The number of a place among those of its depth."""
    walk = walk_to(graph, address)
    _check_depth(walk.length)
    rows = _rows_of(graph)
    sizes = _sizes_below(rows, walk.length)
    number = 0
    node = 0
    left = walk.length
    for step in plain(address):
        left -= 1
        number += sum([sizes[left][child] for child in rows[node][:step]])
        node = rows[node][step]
    return number


def address_of(graph, depth, number):
    """The plain address of the place of a depth with this number."""
    check_graph(graph)
    check_many(depth)
    _check_depth(depth)
    rows = _rows_of(graph)
    sizes = _sizes_below(rows, depth)
    check_below(number, sizes[depth][0])
    steps = []
    node = 0
    skipped = number
    for left in range(depth - 1, -1, -1):
        place = 0
        while skipped >= sizes[left][rows[node][place]]:
            skipped -= sizes[left][rows[node][place]]
            place += 1
        steps.append(place)
        node = rows[node][place]
    return tuple(steps)
