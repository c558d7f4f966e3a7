"""Matchings of two graphs."""

from sharedlets.alike.pairs import demands, ranks_of_both
from sharedlets.checks import is_below
from sharedlets.graphs.graphs import check_graph
from sharedlets.graphs.nodes import children_of


def check_both(graph, other):
    """Raise InvalidGraph if one of the values is no graph."""
    check_graph(graph)
    check_graph(other)


def are_alike(graph, other):
    """Whether two graphs are alike."""
    check_both(graph, other)
    ranks, others = ranks_of_both(graph, other)
    return ranks[0] == others[0]


def _met_pairs(graph, other):
    """The ascending tuple of the pairs to which the same addresses lead in two graphs that are alike."""
    met = {(0, 0): True}
    waiting = [(0, 0)]
    while waiting:
        node, partner = waiting.pop()
        for pair in zip(children_of(graph[node]), children_of(other[partner])):
            if pair not in met:
                met[pair] = True
                waiting.append(pair)
    return tuple(sorted(met))


def matching(graph, other):
    """The matching of two graphs with the fewest pairs, or None if they are not alike."""
    if not are_alike(graph, other):
        return None
    return _met_pairs(graph, other)


def widest_matching(graph, other):
    """The matching of two graphs with all matching pairs, or None if they are not alike."""
    check_both(graph, other)
    ranks, others = ranks_of_both(graph, other)
    if ranks[0] != others[0]:
        return None
    matches = {}
    for partner, rank in enumerate(others):
        matches.setdefault(rank, []).append(partner)
    # Alike graphs have no node that matches no other one.
    return tuple([(node, partner) for node, rank in enumerate(ranks) for partner in matches.get(rank, [])])


def _are_pairs(graph, other, value):
    """Whether the value is an ascending tuple of pairs of nodes."""
    if not isinstance(value, tuple):
        return False
    for pair in value:
        if not isinstance(pair, tuple) or len(pair) != 2:
            return False
        if not is_below(pair[0], len(graph)) or not is_below(pair[1], len(other)):
            return False
    return all([one < two for one, two in zip(value, value[1:])])


def is_matching(graph, other, value):
    """Whether the value is a matching of two graphs."""
    check_both(graph, other)
    if not _are_pairs(graph, other, value):
        return False
    pairs = {pair: True for pair in value}
    if (0, 0) not in pairs:
        return False
    for node, partner in value:
        needed = demands(graph, other, node, partner)
        if needed is None or not all([pair in pairs for pair in needed]):
            return False
    return True
