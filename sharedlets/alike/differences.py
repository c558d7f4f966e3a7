"""First differences of two graphs, and papers."""

from sharedlets.alike.matchings import check_both, is_matching, matching
from sharedlets.alike.pairs import kind_of
from sharedlets.checks import check_many
from sharedlets.errors import InvalidAddress
from sharedlets.graphs.nodes import children_of
from sharedlets.looks.addresses import look


class Side:
    """One of two graphs that are walked through at once."""

    def __init__(self, graph):
        self.rows = [children_of(node) for node in graph]
        self.marks = [kind_of(node) for node in graph]
        self.depths = [len(graph.scope(node)) for node in range(len(graph))]
        self.first = 0

    def copies_below(self, node, copies, length, step):
        """The copies at a child of a node whose address has this length and whose copies are these."""
        behind = copies + (length,) if self.marks[node] == ("fun",) else copies
        # The scope of a child is a beginning of that of its parent, or of this with the parent behind it.
        return behind[:self.depths[self.rows[node][step]]]


def _equal_places(copies, others):
    """The tuple of the pairs of places in two scopes at which the same copy stands."""
    places = {length: place for place, length in enumerate(others)}
    return tuple([(place, places[length]) for place, length in enumerate(copies) if length in places])


class Search:
    """Goes through two unfoldings at once, in the order of the addresses, up to the first difference.

    A place is (node, partner, copies, others): the nodes there, and the lengths of the addresses of the nearest
    copies of the functions in their scopes. (A side can also be the outline of a program, with the copies of the
    functions that its places need.) Below two places with the same nodes the looks are the same but for variables
    of functions that are open there. Such variables differ if their functions do not have the same copy.
    """

    def __init__(self, one, two):
        self.one = one
        self.two = two
        # For each place how long its address is, the number of the place around it, and the step from there.
        self.places = []
        self.ways = []
        # For each pair of nodes the places in both scopes that have the same copy wherever the pair is kept.
        self.equal = {}

    def differ(self, place):
        """Whether the looks at a place differ."""
        node, partner, copies, others = place
        if self.one.marks[node] != self.two.marks[partner]:
            return True
        return self.one.marks[node] == ("var",) and copies[-1] != others[-1]

    def keep(self, place, way):
        """Keep a place without a difference if one can be below it that is not below an earlier place, too."""
        node, partner, copies, others = place
        equal = _equal_places(copies, others)
        if (node, partner) in self.equal:
            before = self.equal[(node, partner)]
            equal = tuple([pair for pair in before if pair in equal])
            if len(equal) == len(before):
                return
        self.equal[(node, partner)] = equal
        self.places.append(place)
        self.ways.append(way)

    def below(self, number):
        """The list of the places directly below the one with this number."""
        node, partner, copies, others = self.places[number]
        length = self.ways[number][0]
        found = []
        for step, child in enumerate(self.one.rows[node]):
            inner = self.one.copies_below(node, copies, length, step)
            outer = self.two.copies_below(partner, others, length, step)
            found.append((child, self.two.rows[partner][step], inner, outer))
        return found

    def address_of_way(self, way):
        """The plain address of a place with this way."""
        steps = []
        length, around, step = way
        while length > 0:
            steps.append(step)
            length, around, step = self.ways[around]
        return tuple(steps[::-1])

    def first_address(self):
        """The first address with different looks, or None."""
        start = (self.one.first, self.two.first, (), ())
        if self.differ(start):
            return ()
        self.keep(start, (0, 0, 0))
        number = 0
        while number < len(self.places):
            length = self.ways[number][0] + 1
            for step, place in enumerate(self.below(number)):
                if self.differ(place):
                    return self.address_of_way((length, number, step))
                self.keep(place, (length, number, step))
            number += 1
        return None


def first_difference(graph, other):
    """The first address at which two graphs differ, with the looks of both there, or None if they are alike."""
    check_both(graph, other)
    address = Search(Side(graph), Side(other)).first_address()
    if address is None:
        return None
    return (address, look(graph, address), look(other, address))


def is_alike_up_to(graph, other, depth):
    """Whether two graphs are alike, or their first difference is longer than the depth."""
    check_both(graph, other)
    check_many(depth)
    found = first_difference(graph, other)
    return found is None or len(found[0]) > depth


def alike_paper(graph, other):
    """A paper that shows whether two graphs are alike."""
    pairs = matching(graph, other)
    if pairs is not None:
        return ("alike", pairs)
    return ("unlike", first_difference(graph, other)[0])


def _look_or_none(graph, address):
    """The look at an address, or None if the value leads to no place."""
    try:
        return look(graph, address)
    except InvalidAddress:
        return None


def is_alike_paper(graph, other, value):
    """Whether the value is a paper that shows whether two graphs are alike."""
    check_both(graph, other)
    if not isinstance(value, tuple) or len(value) != 2:
        return False
    if value[0] == "alike":
        return is_matching(graph, other, value[1])
    if value[0] != "unlike":
        return False
    one, two = _look_or_none(graph, value[1]), _look_or_none(other, value[1])
    return one is not None and two is not None and one != two
