"""Which nodes match, and which pairs a matching needs."""

from sharedlets.graphs.nodes import children_of


def kind_of(node):
    """What two nodes of a matching pair have in common, whatever their children and functions are."""
    if node[0] == "word":
        return ("word", node[1], len(node[2]))
    return (node[0],)


def innermost_of(graph):
    """For each node the innermost function that it needs, or None."""
    return [graph.innermost(node) for node in range(len(graph))]


def demands(graph, other, node, partner):
    """The list of the pairs that a matching with this pair has, too; None if no matching has this pair.

    Where the innermost functions are a pair, their scopes are in order, so the scopes of the two nodes are.
    For variables this is the pair of their functions.
    """
    inner, outer = graph.innermost(node), other.innermost(partner)
    if kind_of(graph[node]) != kind_of(other[partner]) or (inner is None) != (outer is None):
        return None
    pairs = list(zip(children_of(graph[node]), children_of(other[partner])))
    if inner is not None:
        pairs.append((inner, outer))
    return pairs


def labels_of(nodes, inner):
    """For each node what it has in common with each node that it matches; inner as by innermost_of."""
    return [(kind_of(node), inner[at] is None) for at, node in enumerate(nodes)]


def links_of(nodes, inner, first):
    """For each node those that match in order if it matches another one, counted from this first number on."""
    rows = []
    for at, node in enumerate(nodes):
        row = children_of(node) if inner[at] is None else (*children_of(node), inner[at])
        rows.append([first + number for number in row])
    return rows


def ranked(values):
    """For each value a number, the same for equal values, counted as different ones come."""
    ranks = {}
    return [ranks.setdefault(value, len(ranks)) for value in values]


def refined(labels, links):
    """For each thing the number of its class.

    These are the greatest classes of things with equal labels whose links lead, in order, to things of one class.
    """
    ranks = ranked(labels)
    many = 0
    while many < max(ranks) + 1:
        many = max(ranks) + 1
        ranks = ranked([(ranks[at], tuple([ranks[one] for one in row])) for at, row in enumerate(links)])
    return ranks


def ranks_of(graph):
    """For each node the number of its class; matching nodes have one class."""
    inner = innermost_of(graph)
    return refined(labels_of(graph.nodes, inner), links_of(graph.nodes, inner, 0))


def ranks_of_both(graph, other):
    """The same for two graphs together: a list for the one, and one for the other."""
    inner, outer = innermost_of(graph), innermost_of(other)
    many = len(graph)
    labels = labels_of(graph.nodes, inner) + labels_of(other.nodes, outer)
    ranks = refined(labels, links_of(graph.nodes, inner, 0) + links_of(other.nodes, outer, many))
    return ranks[:many], ranks[many:]
