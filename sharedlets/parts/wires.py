"""The functions that nodes need, in an order that depends on the parts of the nodes alone."""

from sharedlets.alike.pairs import kind_of, refined
from sharedlets.graphs.nodes import children_of, parents_of


def _first_uses(parents, variable, function):
    """A dict from the nodes that need a function to the first addresses below them at which it is used."""
    found = {variable: ()}
    level = [variable]
    while level:
        further = {}
        for node in list(level):
            for parent, place in parents[node]:
                address = (place, *found[node])
                if parent != function and parent not in found:
                    further[parent] = min(address, further.get(parent, address))
        found.update(further)
        level = list(further)
    return found


def orders_of(nodes):
    """For each node the functions that it needs, in the order of the first addresses below it at which they are used.

    Nodes with the same part use functions at the same addresses, so they have them in the same order.
    """
    parents = parents_of(nodes)
    uses = [[] for _ in nodes]
    for variable, node in enumerate(nodes):
        if node[0] == "var":
            first = _first_uses(parents, variable, node[1])
            for number in first:
                uses[number].append((len(first[number]), first[number], node[1]))
    return [tuple([function for _, _, function in sorted(rows)]) for rows in uses]


def _wires_of(node, orders, child):
    """What stands for the functions that a child needs: places in the order of the node, or -1 for the node itself."""
    places = {function: place for place, function in enumerate(orders[node])}
    # A function does not need itself, so it has no place of its own.
    return tuple([places.get(function, -1) for function in orders[child]])


def part_ranks(nodes, orders):
    """For each node the number of its class; nodes with the same part have one class."""
    labels = []
    for number, node in enumerate(nodes):
        wires = [_wires_of(number, orders, child) for child in children_of(node)]
        labels.append((kind_of(node), len(orders[number]), tuple(wires)))
    return refined(labels, [children_of(node) for node in nodes])
