"""The places of programs in one table: what stands there, what they need, and to what they lead."""

from sharedlets.alike.pairs import kind_of, refined
from sharedlets.checks import is_whole
from sharedlets.errors import InvalidAddress, InvalidFamily
from sharedlets.families.families import Family
from sharedlets.graphs.graphs import Graph
from sharedlets.graphs.nodes import children_of
from sharedlets.looks.addresses import is_plain_address
from sharedlets.terms.layout import Layout

# Stands for the own variable of a function, where indexes stand for needs.
OWN = -1


def _rows_of_graph(graph):
    """For each node of a graph the row (place, mark, variable, children), as of a family."""
    rows = []
    for number, node in enumerate(graph.nodes):
        variable = node[1] if node[0] == "var" else number
        rows.append((number, kind_of(node), variable, [(child, None) for child in children_of(node)]))
    return rows


def _child_in(family, name, layout, number):
    """The place to which a part of a body leads, and a dict from its needs to variables; None if they are the same."""
    part = layout.parts[number]
    if part[0] != "call":
        return (name, layout.path_of(number)), None
    variables = part[2]
    return family.leads(part[1], *variables)


def _rows_of_family(family):
    """For each place of a family a row: the place, its mark, its variable, and its children as by _child_in.

    The mark tells of what kind it is; the variable of a function is its own one, that of a word means nothing.
    """
    rows = []
    for name in family.names:
        layout = Layout(family[name][1])
        for number, part in enumerate(layout.parts):
            if part[0] != "call":
                mark = ("var",) if part[0] == "name" else kind_of(part)
                children = [_child_in(family, name, layout, one) for one in layout.inner[number]]
                rows.append(((name, layout.path_of(number)), mark, part[1], children))
    return rows


class Outline:
    """The places of a program, numbered as they ascend.

    The needs of a place stand in the order of the first addresses below it at which they are used. So places of
    one part, also of two programs, have them in one order. The wires of a child tell for each of its needs, in this
    order, what it stands for: the index of a need of the place around, or OWN.
    """

    def __init__(self, program):
        if isinstance(program, Graph):
            rows = _rows_of_graph(program)
            top = 0
        elif isinstance(program, Family):
            rows = _rows_of_family(program)
            top = program.start
        else:
            raise InvalidFamily("this is neither a family nor a graph")
        self.places = [place for place, _, _, _ in rows]
        self.numbers = {place: number for number, place in enumerate(self.places)}
        self.marks = [mark for _, mark, _, _ in rows]
        self.variables = [variable for _, _, variable, _ in rows]
        self.rows = [[self.numbers[place] for place, _ in children] for _, _, _, children in rows]
        self.given = [[given for _, given in children] for _, _, _, children in rows]
        self.first = self.numbers[top]
        self.needed = self.find_needs()
        self.wires = [self.wires_below(number) for number in range(len(rows))]

    def handed_up(self, around, step, need):
        """What a need of a child stands for in the place around it: the name or number of a need, or None."""
        given = self.given[around][step]
        one = need if given is None else given[need]
        if self.marks[around] == ("fun",) and self.variables[around] == one:
            return None
        return one

    def uses_around(self, parents, level, needed):
        """The needs that are used one step above those of a level, and are new; each is a pair (place, need)."""
        found = {}
        for number, need in level:
            for around, step in parents[number]:
                one = self.handed_up(around, step, need)
                if one is not None and one not in needed[around]:
                    # Below one child the order of its needs decides.
                    key = (step, needed[number].index(need))
                    found[(around, one)] = min(key, found.get((around, one), key))
        return sorted(found, key=lambda pair: (pair[0], found[pair]))

    def find_needs(self):
        """For each place the needs, in the order of the first addresses at which they are used."""
        parents = [[] for _ in self.places]
        for number, row in enumerate(self.rows):
            for step, child in enumerate(row):
                parents[child].append((number, step))
        needed = [[] for _ in self.places]
        level = [(number, self.variables[number]) for number, mark in enumerate(self.marks) if mark == ("var",)]
        while len(level) > 0:
            for number, need in level:
                needed[number].append(need)
            level = self.uses_around(parents, level, needed)
        return [tuple(needs) for needs in needed]

    def wires_below(self, number):
        """The list of the wires of all children of a place."""
        indexes = {need: index for index, need in enumerate(self.needed[number])}
        found = []
        for step, child in enumerate(list(self.rows[number])):
            needs = [self.handed_up(number, step, need) for need in self.needed[child]]
            found.append(tuple([OWN if need is None else indexes[need] for need in needs]))
        return found

    def handed(self, number, step, values, own):
        """The tuple of values for the needs of a child, from those for the needs of the place and its own variable."""
        return tuple([own if index == OWN else values[index] for index in self.wires[number][step]])

    def copies_below(self, number, copies, length, step):
        """The same for the lengths of the addresses of functions, if that of the place itself is this one."""
        return self.handed(number, step, copies, length)

    def look_of(self, number, copies, length):
        """The look of a place whose address has this length, where the lengths for its needs are these."""
        mark = self.marks[number]
        return ("var", length - copies[0]) if mark == ("var",) else mark

    def number_at(self, place):
        """The number of a place, or None for every value that is none."""
        if isinstance(place, tuple):
            if len(place) != 2 or not isinstance(place[0], str) or not is_plain_address(place[1]):
                return None
        elif not is_whole(place):
            return None
        return self.numbers.get(place)


def _labels_of(outline):
    """For each place what all places of its part have in common, but for what their children are."""
    return [(mark, len(outline.needed[at]), tuple(outline.wires[at])) for at, mark in enumerate(outline.marks)]


def part_ranks_of(outline):
    """For each place the number of its class; places of one part have one class."""
    return refined(_labels_of(outline), outline.rows)


def part_ranks_of_both(one, two):
    """The same for two outlines together: a list for the one, and one for the other."""
    many = len(one.places)
    rows = one.rows + [[many + child for child in row] for row in two.rows]
    ranks = refined(_labels_of(one) + _labels_of(two), rows)
    return ranks[:many], ranks[many:]


def way_of(outline, address):
    """What is on the way of a plain address, its end included: InvalidAddress if it leads to no place.

    It is a list of pairs: the number of a place, and for its needs the lengths of the addresses of their functions.
    """
    if not is_plain_address(address):
        raise InvalidAddress("this is no plain address")
    number = outline.first
    copies = ()
    way = [(number, copies)]
    for length, step in enumerate(address):
        if step >= len(outline.rows[number]):
            raise InvalidAddress("the address leads out of the tree")
        copies = outline.handed(number, step, copies, length)
        number = outline.rows[number][step]
        way.append((number, copies))
    return way
