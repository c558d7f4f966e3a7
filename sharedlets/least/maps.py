"""Maps between graphs, quotients, products and common quotients."""

from sharedlets.alike.matchings import check_both, is_matching, matching
from sharedlets.alike.pairs import ranks_of
from sharedlets.checks import is_below
from sharedlets.errors import InvalidOperation, TooMany
from sharedlets.graphs.graphs import MAX_NODES, Graph, check_graph
from sharedlets.graphs.nodes import children_of, with_children
from sharedlets.least.joins import joined_graph, merged

MAX_DIVIDED = 12


def map_onto(graph, other):
    """The map of a graph onto another one, or None."""
    pairs = matching(graph, other)
    # Each matching has the pairs of this one, in which each node of both graphs stands.
    if pairs is None or len(pairs) > len(graph):
        return None
    return tuple([partner for _, partner in pairs])


def is_map(graph, other, value):
    """Whether the value is the map of a graph onto another one."""
    check_both(graph, other)
    if not isinstance(value, tuple) or not all([is_below(partner, len(other)) for partner in value]):
        return False
    return value == map_onto(graph, other)


def _is_ascending(values):
    return all([one < two for one, two in zip(values, values[1:])])


def _are_parts(graph, value):
    """Whether the value is an ascending tuple of ascending tuples of one or more nodes, with each node once."""
    if not isinstance(value, tuple):
        return False
    for part in value:
        if not isinstance(part, tuple) or not all([is_below(node, len(graph)) for node in part]):
            return False
        if len(part) == 0 or not _is_ascending(part):
            return False
    nodes = [node for part in value for node in part]
    return _is_ascending(value) and sorted(nodes) == list(range(len(graph)))


def quotient(graph, division):
    """The graph in which the nodes of each tuple of a division are joined."""
    check_graph(graph)
    if not _are_parts(graph, division):
        raise InvalidOperation("this is no division")
    pairs = [(node, other) for part in division for node in part for other in part]
    if not is_matching(graph, graph, tuple(sorted(pairs))):
        raise InvalidOperation("the pairs of joined nodes are no matching")
    leads = {node: part[0] for part in division for node in part}
    return joined_graph(graph, leads)


def _further_leads(graph, ranks, leads, node):
    """What can be decided of a node when all is decided of those ahead of it: a list of leads."""
    if leads[node] != node:
        return [leads]
    found = [leads]
    for lead in range(node):
        if leads[lead] == lead and ranks[lead] == ranks[node]:
            more = merged(graph, leads, [(lead, node)])
            # What is decided stays: the same division would come out on another way, too.
            if more[:node] == leads[:node]:
                found.append(more)
    return found


def _all_leads(graph):
    """The list of the leads of all divisions of a graph, each once."""
    ranks = ranks_of(graph)
    found = [list(range(len(graph)))]
    for node in range(len(graph)):
        found = [more for leads in found for more in _further_leads(graph, ranks, leads, node)]
    return found


def quotients(graph):
    """Yield all quotients of a graph, those with more nodes first."""
    check_graph(graph)
    if len(graph) > MAX_DIVIDED:
        raise TooMany(MAX_DIVIDED)
    found = [joined_graph(graph, leads) for leads in _all_leads(graph)]
    for made in sorted(found, key=lambda one: (-len(one), one.nodes)):
        yield made


def _alike_pairs(graph, other):
    """The pairs to which the same addresses lead in two graphs, which must be alike."""
    pairs = matching(graph, other)
    if pairs is None:
        raise InvalidOperation("the graphs are not alike")
    return pairs


def product(graph, other):
    """The graph that is mapped onto both, and onto which each other one is mapped that is mapped onto both."""
    pairs = _alike_pairs(graph, other)
    if len(pairs) > MAX_NODES:
        raise TooMany(MAX_NODES)
    numbers = {pair: number for number, pair in enumerate(pairs)}
    nodes = []
    for node, partner in pairs:
        one, two = graph[node], other[partner]
        passed = [(one[1], two[1])] if one[0] == "var" else list(zip(children_of(one), children_of(two)))
        nodes.append(with_children(one, [numbers[pair] for pair in passed]))
    return Graph(*nodes)


def common(graph, other):
    """The graph onto which both are mapped, and which is mapped onto each other one onto which both are mapped."""
    first = {}
    pairs = []
    for node, partner in _alike_pairs(graph, other):
        pairs.append((first.setdefault(partner, node), node))
    return joined_graph(graph, merged(graph, list(range(len(graph))), pairs))
