"""Tuples of nodes: which are those of graphs, what each node needs, and the first walk."""

from sharedlets.checks import is_below
from sharedlets.terms.terms import MAX_TERMS, is_name


def children_of(node):
    """The numbers of the children of a node."""
    if node[0] == "word":
        return node[2]
    if node[0] == "fun":
        return (node[1],)
    return ()


def with_children(node, children):
    """The word or function with other children, or the variable of the function with this one number."""
    if node[0] == "word":
        return ("word", node[1], tuple(children))
    return (node[0], children[0])


def _is_row(value, many):
    """Whether the value is a tuple of zero to three numbers of nodes."""
    if not isinstance(value, tuple) or len(value) > MAX_TERMS:
        return False
    return all([is_below(child, many) for child in value])


def _is_pair_of(value, kind):
    return isinstance(value, tuple) and len(value) == 2 and value[0] == kind


def _is_node(value, nodes):
    """Whether the value is built like a node among these."""
    if isinstance(value, tuple) and len(value) == 3 and value[0] == "word":
        return is_name(value[1]) and _is_row(value[2], len(nodes))
    if not _is_pair_of(value, "fun") and not _is_pair_of(value, "var"):
        return False
    if not is_below(value[1], len(nodes)):
        return False
    return value[0] == "fun" or _is_pair_of(nodes[value[1]], "fun")


def are_nodes(values):
    """Whether a tuple has nodes as a graph has them, numbered in any way, but for what the root needs."""
    if len(values) == 0 or not all([_is_node(value, values) for value in values]):
        return False
    owners = [node[1] for node in values if node[0] == "var"]
    return len(set(owners)) == len(owners)


def parents_of(nodes):
    """For each node the list of its pairs (parent, place), ascending."""
    parents = [[] for _ in nodes]
    for number, node in enumerate(nodes):
        for place, child in enumerate(children_of(node)):
            parents[child].append((number, place))
    return parents


def _in_need(parents, variable, function):
    """The nodes that need this function, which has this variable."""
    found = {variable: True}
    waiting = [variable]
    while waiting:
        number = waiting.pop()
        for parent, _ in parents[number]:
            if parent != function and parent not in found:
                found[parent] = True
                waiting.append(parent)
    return list(found)


def needs_of(nodes):
    """For each node the ascending tuple of the functions that it needs."""
    parents = parents_of(nodes)
    needs = [[] for _ in nodes]
    variables = [(node[1], number) for number, node in enumerate(nodes) if node[0] == "var"]
    for function, variable in sorted(variables):
        for number in _in_need(parents, variable, function):
            needs[number].append(function)
    return [tuple(row) for row in needs]


def scopes_of(needs):
    """The scopes of all nodes, which are numbered by the first walk, from what they need."""
    scopes = []
    for row in needs:
        # All ways to a node go through the functions that it needs. So these have less numbers than the node,
        # and the innermost one, which needs the others, has the greatest number of them.
        scopes.append(scopes[row[-1]] + (row[-1],) if len(row) > 0 else ())
    return scopes


def first_walk(inner, root):
    """The numbers that are reached from the root, in the order of the first walk; inner has the children of each."""
    met = {}
    waiting = [root]
    while waiting:
        number = waiting.pop()
        if number not in met:
            met[number] = True
            # The first child is added last, so that all below it comes ahead of the next child.
            waiting.extend(inner[number][::-1])
    return list(met)


def pointed(node, numbers):
    """The node with other numbers: numbers has one for each child, or for the function of a variable."""
    passed = [node[1]] if node[0] == "var" else children_of(node)
    return with_children(node, [numbers[one] for one in passed])


def numbered(nodes, root):
    """The nodes that are reached from the root, numbered by the first walk."""
    order = first_walk([children_of(node) for node in nodes], root)
    numbers = {old: new for new, old in enumerate(order)}
    return tuple([pointed(nodes[old], numbers) for old in order])
