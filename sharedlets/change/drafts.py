"""Terms taken apart: their parts can be moved, and each use knows to what it must belong."""

from sharedlets.errors import InvalidOperation, InvalidTerm
from sharedlets.terms.layout import Layout
from sharedlets.terms.terms import is_term, number_at


class Draft:
    """A term taken apart into items with numbers.

    An item is a part of the term, with the number that it has in the layout, or a definition. What stands directly
    in a block are its definitions, and behind them its term; what stands in a definition is its open term.
    """

    def __init__(self, term):
        self.kinds = []
        self.labels = []
        self.inner = []
        # For each use the function or definition to which it belongs.
        self.owners = []
        self.layout = Layout(term)
        self.root = self.add_layout(self.layout)

    def add_item(self, kind, name, inner):
        """Add an item that belongs to nothing and stands nowhere; return its number."""
        self.kinds.append(kind)
        self.labels.append(name)
        self.inner.append(inner)
        self.owners.append(None)
        return len(self.kinds) - 1

    def add_layout(self, layout):
        """Add all parts of an open term; return the number of the whole."""
        first = len(self.kinds)
        for number, part in enumerate(layout.parts):
            name = None if part[0] == "let" else part[1]
            self.add_item(part[0], name, [first + one for one in layout.inner[number]])
        for number, part in enumerate(layout.parts):
            if part[0] == "let":
                for place, (name, _) in enumerate(part[1]):
                    self.inner[first + number][place] = self.add_item("def", name, [self.inner[first + number][place]])
        for number in range(len(layout.parts)):
            self.owners[first + number] = self.owner_in(first, layout.owners[number])
        return first

    def owner_in(self, first, owner):
        """The item for what the name of a use stands for in a layout whose items begin at the first one, or None."""
        if owner is None:
            return None
        number, place = owner
        return first + number if place is None else self.inner[first + number][place]

    def part_at(self, path, kinds):
        """The number of the part at a path of the first term, which must be of one of these kinds."""
        number = number_at(self.layout, path)
        if self.kinds[number] not in kinds:
            raise InvalidOperation("no part of this kind stands there")
        return number

    def definitions_of(self, block):
        """A dict from the names to the definitions of a block."""
        return {self.labels[one]: one for one in self.inner[block][:-1]}

    def outer_of(self, item):
        """The item directly around this one, or None."""
        for number, inner in enumerate(self.inner):
            if item in inner:
                return number
        return None

    def exchange(self, item, other):
        """Put another item in the place of this one, which then stands nowhere."""
        outer = self.outer_of(item)
        if outer is None:
            self.root = other
        else:
            self.inner[outer][self.inner[outer].index(item)] = other

    def below(self, item):
        """The list of an item and all below it, each one ahead of what is below it, in their order."""
        found = []
        waiting = [item]
        while waiting:
            number = waiting.pop()
            found.append(number)
            waiting.extend(self.inner[number][::-1])
        return found

    def copy_of(self, item):
        """Add a copy of an item and of all below it; what belongs to a copied one belongs to its copy."""
        items = self.below(item)
        copies = {}
        for number in items:
            copies[number] = self.add_item(self.kinds[number], self.labels[number], [])
        for number in items:
            self.inner[copies[number]] = [copies[one] for one in self.inner[number]]
            self.owners[copies[number]] = copies.get(self.owners[number], self.owners[number])
        return copies[item]

    def rename_uses(self, owner, name):
        """Write all uses that belong to this function or definition with another name."""
        for number, one in enumerate(list(self.owners)):
            if one == owner:
                self.labels[number] = name

    def names_in(self, item):
        """A dict from the names to the functions and definitions to which uses directly in this item can belong."""
        if self.kinds[item] == "fun":
            return {self.labels[item]: item}
        return self.definitions_of(item) if self.kinds[item] == "let" else {}

    def is_clean(self):
        """Whether no block has one name twice, and each use belongs to what it must belong to.

        Free names of a part that was put in have no owner, and can belong to anything.
        """
        waiting = [(self.root, {})]
        while waiting:
            item, names = waiting.pop()
            owner = self.owners[item]
            if owner is not None and names.get(self.labels[item]) != owner:
                return False
            own = self.names_in(item)
            if self.kinds[item] == "let" and len(own) < len(self.inner[item]) - 1:
                return False
            inner_names = {**names, **own} if len(own) > 0 else names
            waiting.extend([(one, inner_names) for one in self.inner[item]])
        return True

    def check_clean(self):
        """Raise InvalidOperation if the change is not clean."""
        if not self.is_clean():
            raise InvalidOperation("the change is not clean")

    def written(self, item, terms):
        """The open term for an item, with those of the items directly in it."""
        kind, name = self.kinds[item], self.labels[item]
        if kind == "name":
            return ("name", name)
        if kind == "word":
            return ("word", name, tuple(terms))
        if kind == "fun":
            return ("fun", name, terms[0])
        if kind == "def" or len(terms) == 1:
            return terms[0]
        names = [self.labels[one] for one in self.inner[item][:-1]]
        return ("let", tuple(zip(names, terms)), terms[-1])

    def term_of_item(self, item):
        """The open term for an item; that of a definition is its open term, and no block is without definitions."""
        terms = {}
        for number in self.below(item)[::-1]:
            terms[number] = self.written(number, [terms[one] for one in self.inner[number]])
        return terms[item]

    def result(self):
        """The changed term: InvalidOperation if the change is not clean, InvalidTerm if this is no term."""
        self.check_clean()
        term = self.term_of_item(self.root)
        if not is_term(term):
            raise InvalidTerm("the result is no term")
        return term
