"""Least families, and parts of the places of families."""

from sharedlets.errors import InvalidOperation, TooMany
from sharedlets.families.bodies import MAX_PARAMETERS
from sharedlets.families.families import Family, check_family
from sharedlets.families.outlines import Outline, part_ranks_of
from sharedlets.graphs.made import label
from sharedlets.graphs.nodes import first_walk
from sharedlets.least.joins import leads_of


def open_parts(family):
    """The reached places in ascending tuples, one for each part, ordered by their first places."""
    check_family(family)
    outline = Outline(family)
    ranks = part_ranks_of(outline)
    parts = {}
    for number in sorted(first_walk(outline.rows, outline.first)):
        parts.setdefault(ranks[number], []).append(outline.places[number])
    return tuple([tuple(parts[rank]) for rank in parts])


def _number_of_place(outline, place):
    """The number of a place: InvalidOperation if the value is none."""
    number = outline.number_at(place)
    if number is None:
        raise InvalidOperation("this is no place of the family")
    return number


def renaming(family, place, other):
    """The dict from the needs of a place to those of another one of the same part, or None."""
    check_family(family)
    outline = Outline(family)
    number, partner = _number_of_place(outline, place), _number_of_place(outline, other)
    ranks = part_ranks_of(outline)
    if ranks[number] != ranks[partner]:
        return None
    # Places of one part have their needs in one order.
    return dict(sorted(zip(outline.needed[number], outline.needed[partner])))


class LeastForm:
    """The least family of a program while it is made. For each part one place stands."""

    def __init__(self, outline):
        self.outline = outline
        leads = leads_of(part_ranks_of(outline))
        self.top = leads[outline.first]
        self.rows = [[leads[child] for child in row] for row in outline.rows]
        self.order = first_walk(self.rows, self.top)
        self.labels = self.find_definitions()
        # For each part the definition in which it is written, and the names of its needs there.
        self.around = {}
        self.names_there = {}
        # For each function the name of its variable, and for each definition how many names it has so far.
        self.variables = {}
        self.many = {}
        for part in list(self.order):
            if part in self.labels:
                self.begin(part)
            self.name_below(part)

    def find_definitions(self):
        """A dict from the parts that are definitions to their names.

        There are at most 100 words and functions, so there are never as many names as come ahead of the name in.
        """
        uses = {}
        for part in self.order:
            for child in self.rows[part]:
                uses[child] = uses.get(child, 0) + 1
        found = {self.top: "main"}
        for part in self.order:
            if part != self.top and uses[part] > 1 and self.outline.marks[part] != ("var",):
                found[part] = label("", len(found) - 1)
        return found

    def begin(self, part):
        """Name the parameters of a definition."""
        many = len(self.outline.needed[part])
        self.around[part] = part
        self.many[part] = many
        self.names_there[part] = tuple([label("", index) for index in range(many)])

    def name_below(self, part):
        """Name the own variable of a part, and what its children need where they are written in it."""
        if self.outline.marks[part] == ("fun",):
            definition = self.around[part]
            self.variables[part] = label("", self.many[definition])
            self.many[definition] += 1
        for step, child in enumerate(list(self.rows[part])):
            if child not in self.labels and self.outline.marks[child] != ("var",):
                self.around[child] = self.around[part]
                self.names_there[child] = self.names_handed(part, step)

    def names_handed(self, part, step):
        """The names of the variables for the needs of a child."""
        return self.outline.handed(part, step, self.names_there[part], self.variables.get(part))

    def body_of(self, part, bodies):
        """The body of a part, if those of the parts that are written in it are there."""
        inner = []
        for step, child in enumerate(list(self.rows[part])):
            if self.outline.marks[child] == ("var",):
                inner.append(("name", self.names_handed(part, step)[0]))
            elif child in self.labels:
                inner.append(("call", self.labels[child], self.names_handed(part, step)))
            else:
                inner.append(bodies[child])
        if part in self.variables:
            return ("fun", self.variables[part], inner[0])
        return ("word", self.outline.marks[part][1], tuple(inner))

    def made_family(self):
        """The least family: TooMany if a definition needs too many parameters."""
        if max([len(self.names_there[part]) for part in self.labels]) > MAX_PARAMETERS:
            raise TooMany(MAX_PARAMETERS)
        bodies = {}
        # What is written in a part comes behind it on the first walk.
        for part in reversed(list(self.order)):
            if self.outline.marks[part] != ("var",):
                bodies[part] = self.body_of(part, bodies)
        return Family.of({self.labels[part]: (self.names_there[part], bodies[part]) for part in self.labels})


def least_family(program):
    """The least family of a program."""
    return LeastForm(Outline(program)).made_family()


def is_least_family(family):
    """Whether the family is its own least family."""
    check_family(family)
    try:
        return least_family(family) == family
    except TooMany:
        return False
