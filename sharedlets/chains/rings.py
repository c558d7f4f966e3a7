"""Which places of an outline are anchor places of which, and the rings of them."""

from sharedlets.families.outlines import OWN
from sharedlets.graphs.nodes import first_walk


def _parents_of(outline):
    """For each place the list of the pairs (reached place around, step) from which it is reached."""
    parents = [[] for _ in outline.places]
    for around in first_walk(outline.rows, outline.first):
        for step, child in enumerate(outline.rows[around]):
            parents[child].append((around, step))
    return parents


class Ascent:
    """The ways from a function up to its anchors.

    A stand is (place, wanted): the ascending tuple of the indexes of those needs of a place on the way that stand
    for the needs of the function. An anchor is the first one above whose own variable one of these is.
    """

    def __init__(self, outline, parents, number):
        self.outline = outline
        self.upward = parents
        top = (number, tuple(range(len(outline.needed[number]))))
        # For each stand the stand below it from which it was met, and the step down to that one; likewise anchors.
        self.came = {top: None}
        self.anchors_met = {}
        waiting = [top]
        while len(waiting) > 0 and len(waiting[0][1]) > 0:
            waiting = [further for stand in waiting for further in self.climb(stand)]

    def climb(self, stand):
        """The list of the stands directly above one that are new."""
        number, wanted = stand
        found = []
        for around, step in list(self.upward[number]):
            wires = self.outline.wires[around][step]
            indexes = tuple(sorted([wires[index] for index in wanted]))
            if indexes[0] == OWN:
                self.anchors_met.setdefault(around, (stand, step))
            elif (around, indexes) not in self.came:
                self.came[(around, indexes)] = (stand, step)
                found.append((around, indexes))
        return found

    def way_down(self, anchor):
        """The plain address that leads from an anchor down to the function."""
        steps = []
        link = self.anchors_met[anchor]
        while link is not None:
            stand, step = link
            steps.append(step)
            link = self.came[stand]
        return tuple(steps)


def anchors_above(outline):
    """A dict from the reached places that are functions to the lists of their anchor places."""
    parents = _parents_of(outline)
    found = {}
    for number in first_walk(outline.rows, outline.first):
        if outline.marks[number] == ("fun",):
            found[number] = list(Ascent(outline, parents, number).anchors_met)
    return found


def piece_down(outline, anchor, number):
    """The plain address that leads from an anchor place to a place of which it is one."""
    return Ascent(outline, _parents_of(outline), number).way_down(anchor)


def row_lengths(above):
    """A dict from places to the greatest number of functions in rows that end with them, as far as there is one.

    There is none for places on rings, and for those that come behind them.
    """
    lengths = {}
    before = -1
    while before < len(lengths):
        before = len(lengths)
        for number in above:
            if number not in lengths and all([anchor in lengths for anchor in above[number]]):
                lengths[number] = 1 + max([lengths[anchor] for anchor in above[number]], default=0)
    return lengths


def ring_in(above):
    """A list of places each of which is an anchor place of the next one, and the last one of the first; or None."""
    lengths = row_lengths(above)
    left = [number for number in above if number not in lengths]
    if len(left) == 0:
        return None
    # Each place that is left has an anchor place that is left, too.
    row = [left[0]]
    while True:
        further = [anchor for anchor in above[row[-1]] if anchor not in lengths][0]
        if further in row:
            return row[row.index(further):][::-1]
        row.append(further)


def first_way(rows, top, wanted):
    """A shortest plain address that leads from one place to another one."""
    ways = {top: ()}
    level = [top]
    while wanted not in ways:
        further = []
        for number in list(level):
            for step, child in enumerate(rows[number]):
                if child not in ways:
                    ways[child] = ways[number] + (step,)
                    further.append(child)
        level = further
    return ways[wanted]
