"""Bodies, and dicts of definitions: which are those of a family, and which parameters they need."""

from sharedlets.errors import InvalidFamily
from sharedlets.terms.layout import Layout, terms_in
from sharedlets.terms.terms import MAX_DEFINITIONS, MAX_TERMS, is_name

MAX_SIZE = 100
MAX_PARAMETERS = 8

# So many words and functions of a body are looked at: where parts are shared, there can be far too many.
MAX_SEEN = 50000


def are_variables(value):
    """Whether the value is a tuple of at most eight different names."""
    if not isinstance(value, tuple) or len(value) > MAX_PARAMETERS:
        return False
    return all([is_name(name) for name in value]) and len(set(value)) == len(value)


def _is_built(value):
    """Whether the value is built like a body, whatever stands for the bodies directly in it."""
    if not isinstance(value, tuple) or len(value) not in (2, 3) or not is_name(value[1]):
        return False
    if len(value) == 2:
        return value[0] == "name"
    if value[0] == "word":
        return isinstance(value[2], tuple) and len(value[2]) <= MAX_TERMS
    return value[0] == "fun" or (value[0] == "call" and are_variables(value[2]))


class Uses:
    """What a body uses: its free variables, its calls, each with the variables bound there, and how large it is.

    It is looked at no further when it has more words and functions than the limit.
    """

    def __init__(self, body, limit):
        self.free = []
        self.calls = []
        self.many = 0
        self.well_built = True
        waiting = [(body, ())]
        while waiting and self.well_built and self.many <= limit:
            part, bound = waiting.pop()
            self.well_built = _is_built(part)
            if self.well_built:
                waiting.extend(self.take(part, bound))

    def take(self, part, bound):
        """Note what one part uses; return the bodies directly in it, with the variables that are bound there."""
        if part[0] == "name":
            if part[1] not in bound:
                self.free.append(part[1])
        elif part[0] == "call":
            self.calls.append((part[1], part[2], bound))
        else:
            self.many += 1
        inner = (*bound, part[1]) if part[0] == "fun" else bound
        return [(one, inner) for one in terms_in(part)]


def _are_fitting(uses, parameters, definitions):
    """Whether a body with these parameters uses only variables and definitions that are there."""
    for name, variables, bound in uses.calls:
        if name not in definitions or len(definitions[name][0]) != len(variables):
            return False
        if not all([variable in bound or variable in parameters for variable in variables]):
            return False
    return all([variable in parameters for variable in uses.free])


def _comes_to_end(definitions, name):
    """Whether one comes from a call of this definition, call by call, to what is no call."""
    at = name
    for _ in definitions:
        body = definitions[at][1]
        if body[0] != "call":
            return True
        at = body[1]
    return False


def _is_definition(value):
    """Whether the value is a pair of parameters and anything."""
    return isinstance(value, tuple) and len(value) == 2 and are_variables(value[0])


def uses_in(definitions):
    """A dict from the names to the uses of the bodies: InvalidFamily if these are not the definitions of a family."""
    if not isinstance(definitions, dict) or not 1 <= len(definitions) <= MAX_DEFINITIONS:
        raise InvalidFamily("these are not one to 100 definitions")
    if not all([is_name(name) and _is_definition(definitions[name]) for name in definitions]):
        raise InvalidFamily("a definition has no name, or no parameters")
    if "main" not in definitions or definitions["main"][0] != ():
        raise InvalidFamily("there is no definition main without parameters")
    found = {name: Uses(definitions[name][1], MAX_SEEN) for name in definitions}
    for name in found:
        if not found[name].well_built or not _are_fitting(found[name], definitions[name][0], definitions):
            raise InvalidFamily("a body does not fit")
    if not all([_comes_to_end(definitions, name) for name in definitions]):
        raise InvalidFamily("a call leads to no word, function or variable")
    return found


def needed_parameters(definitions, uses):
    """A dict from the names of definitions to the tuples of the parameters that they need, in their order."""
    # For each pair (definition, parameter) those pairs that are needed if this one is.
    users = {}
    for name in definitions:
        for called, variables, bound in uses[name].calls:
            for parameter, variable in zip(definitions[called][0], variables):
                if variable not in bound:
                    users.setdefault((called, parameter), []).append((name, variable))
    waiting = [(name, variable) for name in definitions for variable in uses[name].free]
    needed = {}
    while waiting:
        pair = waiting.pop()
        if pair not in needed:
            needed[pair] = True
            waiting.extend(users.get(pair, []))
    rows = {}
    for name in definitions:
        rows[name] = tuple([parameter for parameter in definitions[name][0] if (name, parameter) in needed])
    return rows


def with_calls(body, names):
    """The body with other names of the definitions that it calls."""
    def renamed_part(part, inner):
        """One part with other names, and with what has become of the bodies directly in it."""
        if part[0] == "name":
            return part
        if part[0] == "call":
            return ("call", names.get(part[1], part[1]), part[2])
        return (part[0], part[1], inner[0] if part[0] == "fun" else tuple(inner))
    return Layout(body).built(renamed_part)
