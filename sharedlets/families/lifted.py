"""The families of graphs, and families without unneeded parameters."""

from sharedlets.errors import TooMany
from sharedlets.families.bodies import MAX_PARAMETERS
from sharedlets.families.families import Family, check_family
from sharedlets.graphs.graphs import check_graph
from sharedlets.graphs.made import WrittenForm, graph_of, label
from sharedlets.terms.layout import Layout


class LiftedForm(WrittenForm):
    """The written form of a graph without blocks; its uses of definitions are calls."""

    def parameters_of(self, node):
        """The names of the variables that the definition of a node needs, from the outermost function on."""
        # Outer functions are met ahead of inner ones on the first walk.
        return tuple([label("v", function) for function in self.graph.needs(node)])

    def use_of(self, node):
        """What is written where a node is used."""
        if node in self.defined:
            return ("call", label("d", node), self.parameters_of(node))
        return super().use_of(node)

    def in_block(self, place, term):
        """The body itself: no block stands there."""
        return term

    def lines(self):
        """A dict from the names of the definitions, main included, to pairs (parameters, body)."""
        made = {"main": ((), self.whole())}
        for node in list(self.defined):
            made[label("d", node)] = (self.parameters_of(node), self.terms[node])
        return made


def family_of(graph):
    """The family of a graph."""
    check_graph(graph)
    made = LiftedForm(graph).lines()
    if max([len(parameters) for parameters, _ in list(made.values())]) > MAX_PARAMETERS:
        raise TooMany(MAX_PARAMETERS)
    return Family.of(made)


def lifted(term):
    """The family of the graph of a term."""
    return family_of(graph_of(term))


def unneeded(family):
    """The ascending tuple of the pairs (definition, parameter) of all unneeded parameters."""
    check_family(family)
    pairs = []
    for name in family.names:
        needs = family.needs(name)
        pairs.extend([(name, parameter) for parameter in family[name][0] if parameter not in needs])
    return tuple(sorted(pairs))


def without_unneeded(family):
    """The family without all unneeded parameters, and what calls hand on for them."""
    check_family(family)
    kept = {}
    for name in family.names:
        needs = family.needs(name)
        kept[name] = [parameter in needs for parameter in family[name][0]]

    def kept_part(part, inner):
        """One part of a body without them, with what has become of the bodies directly in it."""
        if part[0] == "name":
            return part
        if part[0] == "call":
            return ("call", part[1], tuple([variable for variable, stays in zip(part[2], kept[part[1]]) if stays]))
        return (part[0], part[1], inner[0] if part[0] == "fun" else tuple(inner))

    return Family.of({name: (family.needs(name), Layout(family[name][1]).built(kept_part)) for name in family.names})
