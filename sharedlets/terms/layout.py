"""The parts of an open term in one table: what is around each one, what is in it, what it leads to."""

from sharedlets.checks import is_below


def terms_in(part):
    """The open terms directly in an open term, by their numbers in paths."""
    if part[0] == "name":
        return ()
    if part[0] == "word":
        return part[2]
    if part[0] == "fun":
        return (part[2],)
    return tuple([term for _, term in part[1]]) + (part[2],)


def with_term(part, place, other):
    """The open term with another one in the place of the one with this number."""
    if part[0] == "word":
        return ("word", part[1], part[2][:place] + (other,) + part[2][place + 1:])
    if part[0] == "let" and place < len(part[1]):
        name, _ = part[1][place]
        return ("let", part[1][:place] + ((name, other),) + part[1][place + 1:], part[2])
    return (part[0], part[1], other)


def names_of(part):
    """A dict from the names to which uses in this part can belong, to numbers in paths."""
    if part[0] == "fun":
        return {part[1]: 0}
    if part[0] == "let":
        return {name: place for place, (name, _) in enumerate(part[1])}
    return {}


class Layout:
    """The parts of an open term, numbered by ascending paths; number 0 is the whole."""

    def __init__(self, whole):
        self.parts = []
        self.around = []
        self.places = []
        self.inner = []
        self.bound = []
        waiting = [(whole, 0, 0)]
        while waiting:
            part, around, place = waiting.pop()
            number = len(self.parts)
            self._add_row(part, around, place)
            terms = terms_in(part)
            # The last one that is added comes out first, and paths ascend.
            for at in reversed(range(len(terms))):
                waiting.append((terms[at], number, at))

    def _add_row(self, part, around, place):
        number = len(self.parts)
        if number > 0:
            self.inner[around].append(number)
        self.parts.append(part)
        self.around.append(around)
        self.places.append(place)
        self.inner.append([])
        self.bound.append(names_of(part))

    def path_of(self, number):
        """The path of the part with this number."""
        steps = []
        at = number
        while at > 0:
            steps.append(self.places[at])
            at = self.around[at]
        return tuple(steps[::-1])

    def number_at(self, path):
        """The number of the part at this path, or None if the value is no path of the whole."""
        if not isinstance(path, tuple):
            return None
        number = 0
        for step in path:
            if not is_below(step, len(self.inner[number])):
                return None
            number = self.inner[number][step]
        return number

    def levels(self):
        """How many parts are in one another at most."""
        levels = [1]
        for number in range(1, len(self.parts)):
            levels.append(levels[self.around[number]] + 1)
        return max(levels)

    def is_use(self, number):
        """Whether the part with this number is the use of a name."""
        return self.parts[number][0] == "name"

    def owner_of(self, number):
        """The number of the function or block to which this use belongs, or None."""
        name = self.parts[number][1]
        at = number
        while at > 0:
            at = self.around[at]
            if name in self.bound[at]:
                return at
        return None

    def is_head(self, number):
        """Whether this part is a word, a function, or a use of the variable of a function."""
        if not self.is_use(number):
            return self.parts[number][0] != "let"
        owner = self.owner_of(number)
        return owner is not None and self.parts[owner][0] == "fun"

    def onward(self, number):
        """The number of the part to which a block or the use of a defined name leads; None for a free name."""
        if not self.is_use(number):
            return self.inner[number][-1]
        owner = self.owner_of(number)
        if owner is None:
            return None
        name = self.parts[number][1]
        return self.inner[owner][self.bound[owner][name]]

    def find_heads(self):
        """A list with the number of the head of each part, or None where there is no head."""
        heads = {number: number for number in range(len(self.parts)) if self.is_head(number)}
        for start in range(len(self.parts)):
            trail = []
            at = start
            while at is not None and at not in heads:
                # Who comes back to a part of the same trail goes in a ring and finds no head.
                heads[at] = None
                trail.append(at)
                at = self.onward(at)
            found = None if at is None else heads[at]
            for number in trail:
                heads[number] = found
        return [heads[number] for number in range(len(self.parts))]
