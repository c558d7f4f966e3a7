"""Pools: the nodes that several programs share."""

from sharedlets.graphs.nodes import children_of, first_walk, pointed
from sharedlets.least.joins import leads_of, node_ranks


class Pool:
    """Programs under names, each one a least graph, and their nodes, of which no two match. A pool never changes.

    The names ascend. The tops are the nodes that are the roots of the programs.
    """

    def __init__(self, programs, shared_nodes, tops):
        self.programs = programs
        self.shared_nodes = shared_nodes
        self.tops = tops

    def below(self, top):
        """The list of the nodes that are reached from one, itself included."""
        return first_walk([children_of(node) for node in self.shared_nodes], top)

    def node_like(self, graph):
        """The node below which the unfolding is that of a graph, or None."""
        ranks = node_ranks(with_nodes(self.shared_nodes, graph.nodes))
        many = len(self.shared_nodes)
        # What needs nothing does not match what needs a function.
        matching_nodes = [node for node in range(many) if ranks[node] == ranks[many]]
        return matching_nodes[0] if len(matching_nodes) > 0 else None


def with_nodes(nodes, others):
    """The list of nodes with others behind them, which are counted on."""
    numbers = list(range(len(nodes), len(nodes) + len(others)))
    return list(nodes) + [pointed(node, numbers) for node in others]


def _pool_with(programs, nodes, tops):
    """The pool of programs with these tops among nodes of which no two match, and which are not all reached."""
    # One more row leads to all roots, in the order of their names.
    rows = [children_of(node) for node in nodes] + [[tops[name] for name in tops]]
    order = first_walk(rows, len(nodes))[1:]
    numbers = {old: new for new, old in enumerate(order)}
    shared_nodes = tuple([pointed(nodes[old], numbers) for old in order])
    return Pool({name: programs[name] for name in tops}, shared_nodes, {name: numbers[tops[name]] for name in tops})


def pool_of(programs, before):
    """The pool of a dict from names to least graphs; before is a pool which perhaps has some of them."""
    nodes = list(before.shared_nodes)
    there = [(before.programs[name], before.tops[name]) for name in before.programs]
    tops = {}
    for name in sorted(programs):
        known = [top for graph, top in there if graph == programs[name]]
        if len(known) == 0:
            known.append(len(nodes))
            there.append((programs[name], len(nodes)))
            nodes = with_nodes(nodes, programs[name].nodes)
        tops[name] = known[0]
    if len(nodes) == len(before.shared_nodes):
        return _pool_with(programs, nodes, tops)
    leads = leads_of(node_ranks(nodes))
    joined_nodes = [pointed(node, leads) for node in nodes]
    return _pool_with(programs, joined_nodes, {name: leads[tops[name]] for name in tops})
