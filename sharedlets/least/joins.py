"""Sets of joined nodes, and the graphs that come out of them.

A list of leads tells which nodes are joined: for each node it has the least one of its set.
"""

from sharedlets.alike.pairs import demands, labels_of, links_of, refined
from sharedlets.graphs.graphs import Graph
from sharedlets.graphs.nodes import children_of, needs_of, numbered, with_children


def leads_of(ranks):
    """The leads where all nodes of one rank are joined."""
    first = {}
    for node, rank in enumerate(ranks):
        first.setdefault(rank, node)
    return [first[rank] for rank in ranks]


def sets_of(leads):
    """The ascending tuple of the sets of joined nodes, each one ascending."""
    sets = {}
    for node, lead in enumerate(leads):
        sets.setdefault(lead, []).append(node)
    return tuple([tuple(sets[lead]) for lead in sorted(sets)])


def merged(graph, leads, pairs):
    """The leads where these pairs of matching nodes, too, are joined, with all that must be joined then."""
    made = list(leads)
    waiting = list(pairs)
    while waiting:
        node, other = waiting.pop()
        low, high = sorted([made[node], made[other]])
        if low != high:
            made = [low if lead == high else lead for lead in made]
            waiting.extend(demands(graph, graph, node, other))
    return made


def joined_nodes(nodes, leads):
    """The nodes in which each set of joined nodes has become one, numbered anew."""
    made = []
    for node in nodes:
        passed = [node[1]] if node[0] == "var" else children_of(node)
        made.append(with_children(node, [leads[one] for one in passed]))
    return numbered(made, 0)


def joined_graph(graph, leads):
    """The graph in which each set of joined nodes has become one."""
    nodes = joined_nodes(graph.nodes, leads)
    return Graph.of(nodes)


def least_nodes(nodes):
    """The least ones of nodes that are numbered by the first walk; there can be more than those of a graph."""
    # The innermost one of the functions that a node needs is met behind the others on the first walk.
    inner = [needs[-1] if len(needs) > 0 else None for needs in needs_of(nodes)]
    ranks = refined(labels_of(nodes, inner), links_of(nodes, inner, 0))
    return joined_nodes(nodes, leads_of(ranks))
