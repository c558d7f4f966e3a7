"""Tests of the families of graphs, and of unneeded parameters: [17.1], [17.2]."""

import random
import unittest

from sharedlets.errors import InvalidFamily, InvalidGraph, InvalidTerm, TooMany
from sharedlets.families.alike import alike_programs
from sharedlets.families.families import Family
from sharedlets.families.lifted import family_of, lifted, unneeded, without_unneeded
from sharedlets.families.texts import read_family, write_family
from sharedlets.graphs.graphs import Graph
from sharedlets.graphs.made import graph_of, term_of
from sharedlets.terms.texts import read
from tests.helper import (
    APART, CROSS, FAMILY_TEXTS, ROLL, TEXTS, Case, alike_nodes, check_errors, letters, naive_needs, naive_needs_of, naive_program_difference,
    naive_is_term, odd_values, padded_family, random_graph_nodes, ring, some_families, wrong_families, wrong_graphs,
)

SOME = read_family(FAMILY_TEXTS[3])


def naive_lifted(graph):
    """The definitions that come out of the written form if each block is taken away and each definition gets parameters."""
    needs = naive_needs(graph.nodes)
    found = {}

    def body_of(part):
        match part[0]:
            case "name" if part[1][0] == "v":
                return part
            case "name":
                return ("call", part[1], row_of(part[1]))
            case "word":
                return ("word", part[1], tuple(body_of(term) for term in part[2]))
            case "fun":
                return ("fun", part[1], body_of(part[2]))
        for name, term in part[1]:
            found[name] = (row_of(name), body_of(term))
        return body_of(part[2])

    def row_of(name):
        node = [letters("d", at) for at in range(len(graph))].index(name)
        return tuple(letters("v", function) for function in sorted(needs[node]))

    main = body_of(term_of(graph))
    return {**found, "main": ((), main)}


class Examples(Case):

    def test_families_of_terms(self):
        self.assertEqual(write_family(lifted(APART)).split("\n"), ["main[] = fun va. db[va]", "db[va] = fun vb. at(va, db[va])"])
        self.assertEqual(write_family(lifted(CROSS)).split("\n")[0], "main[] = da[]")
        self.assertEqual(write_family(lifted(ROLL)), "main[] = da[]\nda[] = f(g(da[]))")

    def test_unneeded_parameters(self):
        self.assertEqual(unneeded(SOME), (("g", "y"),))
        self.assertEqual(write_family(without_unneeded(SOME)).split("\n"), ["main[] = fun a. fun b. g[a]", "g[x] = at(x, g[x])"])
        self.assertEqual(unneeded(lifted(APART)), ())

    def test_parameters_that_are_only_handed_on_in_rings(self):
        family = read_family("main[] = fun a. fun b. g[a, b]\ng[x, y] = f(h[y, x])\nh[u, v] = f(u, g[v, u])")
        self.assertEqual(unneeded(family), (("g", "x"), ("h", "v")))
        self.assertEqual(write_family(without_unneeded(family)), "main[] = fun a. fun b. g[b]\ng[y] = f(h[y])\nh[u] = f(u, g[u])")
        family = read_family("main[] = fun a. g[a]\ng[x] = f(h[x])\nh[x] = m(p[x])\np[x] = g[x]")
        self.assertEqual(unneeded(family), (("g", "x"), ("h", "x"), ("p", "x")))
        self.assertEqual(write_family(without_unneeded(family)), "main[] = fun a. g[]\ng[] = f(h[])\nh[] = m(p[])\np[] = g[]")


class FamiliesOfGraphs(Case):

    def test_against_the_written_form(self):
        rng = random.Random(171)
        graphs = [graph_of(read(text)) for text in TEXTS] + [Graph.of(nodes) for nodes in random_graph_nodes(rng, 60, 14)]
        graphs += [Graph.of(nodes) for nodes, _ in alike_nodes(rng, 40, 30)]
        graphs.append(graph_of(read("fun a. fun b. fun c. let x = f(a, g(b, x), fun d. h(d, c, x)) in pair(x, x)")))
        parameters = 0
        for graph in graphs:
            made = naive_lifted(graph)
            parameters = max([parameters, *(len(row) for row, _ in made.values())])
            family = family_of(graph)
            self.assertEqual(family.definitions, made)
            self.assertIs(alike_programs(family, graph), True)
            self.assertIsNone(naive_program_difference(family, graph, 6))
            self.assertEqual(family.size, len([node for node in graph if node[0] != "var"]))
            self.assertEqual(unneeded(family), ())
        self.assertGreaterEqual(parameters, 3)

    def test_terms(self):
        for text in TEXTS:
            self.assertEqual(lifted(read(text)), family_of(graph_of(read(text))))

    def test_eight_and_nine_parameters(self):
        for many in (8, 9):
            names = [letters("v", at) for at in range(9)]
            inner = f"f(f({', '.join(names[:3])}), f({', '.join(names[3:6])}), f({', '.join(names[6:many])}))"
            term = read("".join(f"fun {name}. " for name in names) + f"let x = {inner} in pair(x, x)")
            if many == 8:
                self.assertEqual(sorted(len(row) for row, _ in lifted(term).definitions.values()), [0, 8])
            else:
                self.fails((TooMany, ("limit", 8)), lifted, term)
                self.fails((TooMany, ("limit", 8)), family_of, graph_of(term))

    def test_a_hundred_definitions(self):
        whole = tuple(("word", "f", ((at + 1) % 100, at)) for at in range(100))
        self.fails(InvalidFamily, family_of, Graph.of(whole))
        less = tuple(("word", "f", ((at + 1) % 99, at)) for at in range(99))
        self.assertEqual(len(family_of(Graph.of(less))), 100)
        self.assertEqual(family_of(Graph.of(ring(100))).names, ("da", "main"))

    def test_nine_parameters_of_many_definitions(self):
        # Each node is used twice, and the last words need nine functions.
        nodes = [("fun", at + 1) for at in range(9)]
        nodes += [("word", "f", (at + 1, at + 1)) for at in range(9, 88)]
        nodes += [("word", "g", (91, 92, 93)), ("word", "g", (94, 95, 96)), ("word", "g", (97, 98, 99))]
        nodes[87] = ("word", "f", (88, 89, 90))
        nodes += [("var", at) for at in range(9)]
        graph = Graph.of(tuple(nodes))
        self.fails((TooMany, ("limit", 8)), family_of, graph)
        self.fails((TooMany, ("limit", 8)), lifted, term_of(graph))

    def test_more_than_a_hundred_nodes(self):
        inner = "k()"
        for _ in range(100):
            inner = f"f({inner})"
        self.fails((TooMany, ("limit", 100)), lifted, read(inner))

    def test_wrong_arguments(self):
        check_errors(self, family_of, ([graph_of(APART)], wrong_graphs()))
        wrong = [value for value in odd_values() if value != ("word", "f", ()) and not (isinstance(value, tuple) and len(value) == 3 and naive_is_term(value))]
        check_errors(self, lifted, ([APART], [(value, InvalidTerm) for value in [*wrong, graph_of(APART), SOME]]))
        self.fails(InvalidGraph, family_of, APART)


class UnneededParameters(Case):

    def test_against_needs(self):
        rng = random.Random(172)
        many = 0
        for made in some_families(173, 40):
            made = padded_family(rng, made)
            family = Family.of(made)
            wanted = sorted((name, one) for name, (row, _) in made.items() for one in row if one not in self.needs(made, name))
            many += len(wanted)
            self.assertEqual(unneeded(family), tuple(wanted))
            other = without_unneeded(family)
            self.assertIs(alike_programs(family, other), True)
            self.assertIsNone(naive_program_difference(family, other, 5))
            self.assertEqual(unneeded(other), ())
            self.assertEqual(other.names, family.names)
            for name in family.names:
                self.assertEqual(other[name][0], tuple(one for one in family[name][0] if (name, one) not in wanted))
            if not wanted:
                self.assertEqual(other, family)
        self.assertGreater(many, 30)

    def needs(self, definitions, name):
        """What the definition needs."""
        body = ("fun", "zz", ("call", name, definitions[name][0]))
        return naive_needs_of({**definitions, "extra": (definitions[name][0], body)}, "extra", ())

    def test_wrong_arguments(self):
        for call in (unneeded, without_unneeded):
            check_errors(self, call, ([SOME], wrong_families()))


if __name__ == "__main__":
    unittest.main()
