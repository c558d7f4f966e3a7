"""The parts of an open term in one table: what is around each one, what is in it, what it leads to."""

from sharedlets.checks import is_below


def terms_in(part):
    """The open terms directly in an open term, by their numbers in paths; likewise the bodies in a body."""
    if part[0] == "name" or part[0] == "call":
        return ()
    if part[0] == "word":
        return part[2]
    if part[0] == "fun":
        return (part[2],)
    return tuple([term for _, term in part[1]]) + (part[2],)


def with_term(part, place, other):
    """The open term with another one in the place of the one with this number."""
    if part[0] == "word":
        return ("word", part[1], part[2][:place] + (other,) + part[2][place + 1:])
    if part[0] == "let" and place < len(part[1]):
        name, _ = part[1][place]
        return ("let", part[1][:place] + ((name, other),) + part[1][place + 1:], part[2])
    return (part[0], part[1], other)


def names_below(part, number, names):
    """The names that stand for something in the terms directly in a part: what it binds, and what is bound around it.

    Each stands for a pair: the number of a function and None, or the number of a block and that of a definition.
    """
    if part[0] == "fun":
        return {**names, part[1]: (number, None)}
    if part[0] == "let":
        own = {name: (number, place) for place, (name, _) in enumerate(part[1])}
        return {**names, **own}
    return names


class Layout:
    """The parts of an open term, or of a body, numbered by ascending paths; number 0 is the whole."""

    def __init__(self, whole):
        self.parts = []
        self.around = []
        self.places = []
        self.inner = []
        # For each use what its name stands for, as names_below tells it; None for a free name and for other parts.
        self.owners = []
        waiting = [(whole, 0, 0, {})]
        while waiting:
            part, around, place, names = waiting.pop()
            number = len(self.parts)
            if number > 0:
                self.inner[around].append(number)
            self.parts.append(part)
            self.around.append(around)
            self.places.append(place)
            self.inner.append([])
            if part[0] == "name":
                self.owners.append(names.get(part[1]))
                continue
            self.owners.append(None)
            below = names_below(part, number, names)
            terms = terms_in(part)
            # The last one that is added comes out first, and paths ascend.
            for at in range(len(terms) - 1, -1, -1):
                waiting.append((terms[at], number, at, below))

    def path_of(self, number):
        """The path of the part with this number."""
        steps = []
        at = number
        while at > 0:
            steps.append(self.places[at])
            at = self.around[at]
        return tuple(steps[::-1])

    def number_at(self, path):
        """The number of the part at this path, or None if the value is no path of the whole."""
        if not isinstance(path, tuple):
            return None
        number = 0
        for step in path:
            if not is_below(step, len(self.inner[number])):
                return None
            number = self.inner[number][step]
        return number

    def built(self, make):
        """What is made of the whole: make is passed each part, and the list of what is made of those directly in it."""
        made = {}
        # What is in a part has greater numbers, so it is made already.
        for number in reversed(range(len(self.parts))):
            made[number] = make(self.parts[number], [made[one] for one in self.inner[number]])
        return made[0]

    def levels(self):
        """How many parts are in one another at most."""
        levels = [1]
        for number in range(1, len(self.parts)):
            levels.append(levels[self.around[number]] + 1)
        return max(levels)

    def onward(self):
        """A list with the number of the part to which each one leads at once: itself for a head.

        It has None for free names, and for uses that stand for themselves.
        """
        found = []
        for number, part in enumerate(self.parts):
            owner = self.owners[number]
            if part[0] == "let":
                found.append(self.inner[number][-1])
            elif owner is not None and owner[1] is not None:
                definition = self.inner[owner[0]][owner[1]]
                found.append(definition if definition != number else None)
            else:
                found.append(number if part[0] != "name" or owner is not None else None)
        return found

    def find_heads(self):
        """A list with the number of the head of each part, or None where there is no head."""
        steps = self.onward()
        heads = steps
        # Each round goes twice as far as the one before, and most heads are near.
        for _ in range(len(steps).bit_length()):
            further = [None if at is None else heads[at] for at in heads]
            if further == heads:
                break
            heads = further
        # Who is not at an end behind so many steps goes in a ring.
        return [at if at is not None and steps[at] == at else None for at in heads]
