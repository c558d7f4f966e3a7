"""Going down the unfolding of a graph along addresses, also very long ones."""

from sharedlets.errors import InvalidAddress
from sharedlets.graphs.nodes import children_of


class Walk:
    """A place of the unfolding of a graph, at first the root.

    The copies are the lengths of the addresses of the nearest copies of the functions in the scope of the node.
    """

    def __init__(self, graph):
        self.rows = [children_of(node) for node in graph]
        self.opening = [node[0] == "fun" for node in graph]
        self.depths = [len(graph.scope(node)) for node in range(len(graph))]
        self.node = 0
        self.length = 0
        self.copies = []

    def step(self, place):
        """Go on to a child."""
        row = self.rows[self.node]
        if place >= len(row):
            raise InvalidAddress("the address leads out of the tree")
        if self.opening[self.node]:
            self.copies.append(self.length)
        self.node = row[place]
        self.length += 1
        # The scope of a child is a beginning of that of its parent, or of this with the parent behind it.
        del self.copies[self.depths[self.node]:]

    def go_round(self, piece):
        """Go all steps of a piece."""
        for place in piece:
            self.step(place)

    def repeat(self, piece, times):
        """Go all steps of a piece, so many times."""
        left_at = {}
        left = times
        while left > 0 and self.node not in left_at:
            left_at[self.node] = left
            self.go_round(piece)
            left -= 1
        if left > 0:
            # From here on the nodes between rounds recur. The last whole turn is gone step by step, for it
            # makes anew all copies that a turn makes; the other ones are the same behind each turn.
            turn = left_at[self.node] - left
            passed = max(0, left // turn - 1) * turn
            self.length += passed * len(piece)
            left -= passed
        for _ in range(left):
            self.go_round(piece)

    def follow(self, address):
        """Go the whole way of an address."""
        for element in address:
            if isinstance(element, tuple):
                self.repeat(element[0], element[1])
            else:
                self.step(element)
