"""Families without a chain: the graphs and terms that are alike, in which no definition has a parameter."""

from sharedlets.chains.chains import chain
from sharedlets.errors import Chained, TooMany
from sharedlets.families.outlines import Outline, part_ranks_of
from sharedlets.graphs.graphs import MAX_NODES, Graph
from sharedlets.graphs.made import term_of


class NestedForm:
    """The least graph of a family without a chain while it is made.

    A copy is (place, nodes): the number of a place, and the nodes of the functions that it needs. Copies are one node
    exactly if their places are of one part and these nodes are the same, each for each.
    """

    def __init__(self, outline):
        self.outline = outline
        self.ranks = part_ranks_of(outline)
        self.numbers = {}
        # For each node its first copy, in the order of the first walk.
        self.firsts = []
        waiting = [(outline.first, ())]
        while len(waiting) > 0:
            copy = waiting.pop()
            if self.key_of(copy) not in self.numbers:
                self.add_node(copy)
                waiting.extend(self.copies_in(copy)[::-1])

    def key_of(self, copy):
        """What a copy has in common with those that are the same node, and with no others."""
        number, nodes = copy
        return (self.ranks[number], nodes)

    def add_node(self, copy):
        """Give the node of a copy the next number."""
        if len(self.firsts) == MAX_NODES:
            raise TooMany(MAX_NODES)
        self.numbers[self.key_of(copy)] = len(self.firsts)
        self.firsts.append(copy)

    def node_of_copy(self, copy):
        """The number of the node of a copy."""
        return self.numbers[self.key_of(copy)]

    def copies_in(self, copy):
        """The list of the copies to which the children of a copy lead."""
        number, nodes = copy
        own = self.node_of_copy(copy)
        row = self.outline.rows[number]
        return [(child, self.outline.handed(number, step, nodes, own)) for step, child in enumerate(row)]

    def made_node(self, copy):
        """The node of a copy."""
        number, nodes = copy
        mark = self.outline.marks[number]
        children = [self.node_of_copy(inner) for inner in self.copies_in(copy)]
        if mark == ("var",):
            return ("var", nodes[0])
        if mark == ("fun",):
            return ("fun", children[0])
        return ("word", mark[1], tuple(children))

    def made_graph(self):
        """The least graph."""
        return Graph.of(tuple([self.made_node(copy) for copy in self.firsts]))

    def nodes_by_place(self):
        """For each reached place the dict of the nodes that stand for it."""
        found = [{} for _ in self.outline.places]
        met = {}
        waiting = [(self.outline.first, ())]
        while len(waiting) > 0:
            copy = waiting.pop()
            if copy not in met:
                met[copy] = True
                found[copy[0]][self.node_of_copy(copy)] = True
                waiting.extend(self.copies_in(copy))
        return found


def is_plain(family):
    """Whether some term is alike to the family."""
    return chain(family) is None


def _form_of(family):
    """The least graph of a family while it is made: Chained if there is none."""
    paper = chain(family)
    if paper is not None:
        raise Chained(paper)
    return NestedForm(Outline(family))


def graph_of_family(family):
    """The least graph of a family."""
    return _form_of(family).made_graph()


def taken(family):
    """The written form of the least graph of a family."""
    return term_of(graph_of_family(family))


def copies(family):
    """A dict from the reached places of a family to the ascending tuples of the nodes that stand for them."""
    form = _form_of(family)
    found = form.nodes_by_place()
    places = form.outline.places
    return {places[number]: tuple(sorted(nodes)) for number, nodes in enumerate(found) if nodes}
