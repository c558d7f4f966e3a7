"""Families of definitions with parameters."""

from sharedlets.errors import InvalidFamily, InvalidOperation, TooMany, UnknownName
from sharedlets.families.bodies import MAX_SIZE, Uses, are_variables, needed_parameters, uses_in, with_calls
from sharedlets.terms.layout import Layout
from sharedlets.terms.terms import is_name


def is_body(value):
    """Whether the value is a body."""
    uses = Uses(value, MAX_SIZE)
    return uses.well_built and uses.many <= MAX_SIZE


class Family:
    """Definitions with parameters, one of them main."""

    def __init__(self, main, **definitions):
        self._take({"main": ((), main), **definitions})

    @classmethod
    def of(cls, definitions):
        """The family with the definitions of a dict from names to pairs (parameters, body)."""
        made = cls(("word", "main", ()))
        made._take(definitions)
        return made

    def _take(self, definitions):
        """Set all attributes."""
        uses = uses_in(definitions)
        size = sum([uses[name].many for name in uses])
        if size > MAX_SIZE:
            raise TooMany(MAX_SIZE)
        self._definitions = {name: definitions[name] for name in sorted(definitions)}
        self._size = size
        self._called = {name: tuple(sorted(set([called for called, _, _ in uses[name].calls]))) for name in uses}
        self._needs = needed_parameters(definitions, uses)
        self._start = self.leads("main")[0]

    @property
    def names(self):
        """The ascending tuple of the names of the definitions."""
        return tuple(self._definitions)

    @property
    def definitions(self):
        """A dict from the names to the pairs (parameters, body)."""
        return {name: self._definitions[name] for name in self._definitions}

    @property
    def size(self):
        """The number of words and functions."""
        return self._size

    @property
    def start(self):
        """The place to which the body of main leads."""
        return self._start

    def needs(self, name):
        """The tuple of the parameters that a definition needs, in their order."""
        self._check(name)
        return self._needs[name]

    def called(self, name):
        """The ascending tuple of the definitions that the body of this one calls."""
        self._check(name)
        return self._called[name]

    def reached(self):
        """The ascending tuple of the definitions that are called from main, call by call, main included."""
        found = {"main": True}
        waiting = ["main"]
        while waiting:
            for name in self._called[waiting.pop()]:
                if name not in found:
                    found[name] = True
                    waiting.append(name)
        return tuple(sorted(found))

    def needs_of(self, place):
        """The ascending tuple of the parameters and variables that a place needs."""
        uses = Uses(self._body_at(place), MAX_SIZE)
        found = list(uses.free)
        for name, variables, bound in uses.calls:
            for parameter, variable in zip(self._definitions[name][0], variables):
                if parameter in self._needs[name] and variable not in bound:
                    found.append(variable)
        return tuple(sorted(set(found)))

    def leads(self, name, *variables):
        """The place to which a call leads, and a dict from its needs to variables."""
        self._check(name)
        if not are_variables(variables) or len(variables) != len(self._definitions[name][0]):
            raise InvalidOperation("these are not as many different variables as parameters")
        parameters, body = self._definitions[name]
        given = dict(zip(parameters, variables))
        at = name
        while body[0] == "call":
            handed = [given[variable] for variable in body[2]]
            at = body[1]
            parameters, body = self._definitions[at]
            given = dict(zip(parameters, handed))
        return ((at, ()), {parameter: given[parameter] for parameter in sorted(self._needs[at])})

    def with_definition(self, name, parameters, body):
        """The family with this definition, perhaps in the place of another one."""
        if not is_name(name):
            raise InvalidFamily("this is no name")
        return Family.of({**self._definitions, name: (parameters, body)})

    def without(self, *names):
        """The family without these definitions."""
        for name in names:
            self._check(name)
        return Family.of({name: self._definitions[name] for name in self._definitions if name not in names})

    def renamed(self, **names):
        """The family with other names of these definitions."""
        return self.renamed_by(names)

    def renamed_by(self, names):
        """The family with other names of the definitions that are the keys of a dict."""
        if not isinstance(names, dict) or not all([isinstance(name, str) for name in names]) or "main" in names:
            raise InvalidOperation("these are not names of definitions other than main")
        for name in sorted(names):
            self._check(name)
        if not all([is_name(names[name]) for name in names]):
            raise InvalidFamily("a new name is no name")
        made = {}
        for name in self._definitions:
            parameters, body = self._definitions[name]
            made[names.get(name, name)] = (parameters, with_calls(body, names))
        if len(made) < len(self._definitions):
            raise InvalidFamily("two definitions have one name")
        return Family.of(made)

    def _check(self, name):
        """Raise UnknownName if the value is not the name of a definition."""
        if not is_name(name) or name not in self._definitions:
            raise UnknownName(name)

    def _body_at(self, place):
        """The part of a body that stands at a place."""
        if not isinstance(place, tuple) or len(place) != 2 or place[0] not in self:
            raise InvalidOperation("this is no place")
        layout = Layout(self._definitions[place[0]][1])
        number = layout.number_at(place[1])
        if number is None or layout.parts[number][0] == "call":
            raise InvalidOperation("no use of a variable, word or function stands there")
        return layout.parts[number]

    def __getitem__(self, name):
        self._check(name)
        return self._definitions[name]

    def __iter__(self):
        raise TypeError("a family cannot be iterated over")

    def __contains__(self, value):
        return is_name(value) and value in self._definitions

    def __len__(self):
        return len(self._definitions)

    def __eq__(self, other):
        return isinstance(other, Family) and self._definitions == other._definitions

    def __str__(self):
        return f"family of {len(self._definitions)} definitions, {self._size} nodes"


def check_family(family):
    """Raise InvalidFamily if the value is no family."""
    if not isinstance(family, Family):
        raise InvalidFamily("this is no family")
