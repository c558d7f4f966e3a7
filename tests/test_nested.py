"""Tests of parameters taken away: [0.16], [0.19], [0.20], [19.1], [19.2]."""

import random
import unittest

from sharedlets.chains.chains import chain, is_chain
from sharedlets.chains.nested import copies, graph_of_family, is_plain, taken
from sharedlets.errors import Chained, InvalidFamily, TooMany
from sharedlets.families.alike import alike_programs
from sharedlets.families.families import Family
from sharedlets.families.least import least_family
from sharedlets.families.lifted import family_of
from sharedlets.families.texts import read_family
from sharedlets.graphs.graphs import Graph
from sharedlets.graphs.made import graph_of, term_of
from sharedlets.least.least import is_least, least
from sharedlets.least.maps import map_onto
from sharedlets.terms.texts import read, write
from tests.helper import (
    APART, FAMILY_TEXTS, TEXTS, Case, alike_nodes, body_at, check_errors, copied_family, naive_anchors, naive_family_below,
    naive_family_places, naive_fits_in, naive_has_ring, naive_lead, naive_needs_of, naive_program_difference, padded_family, ring,
    some_families, turned_family, wrong_families,
)

KEPT = read_family(FAMILY_TEXTS[0])
PASSED = read_family(FAMILY_TEXTS[1])
TURN = read_family(FAMILY_TEXTS[2])


def naive_copies(definitions, most):
    """The list of the copies of places, each a pair (place, tuple of the copies of its needs), or None for more than most.

    A copy stands for all places of the unfolding with this place whose needed functions are these copies.
    """
    needs = {place: naive_needs_of(definitions, *place) for place in naive_family_places(definitions)}
    numbers = {}
    rows = []
    waiting = [(naive_lead(definitions, "main", (), {})[:2], ())]
    numbers[waiting[0]] = 0
    order = list(waiting)
    for copy in order:
        if len(order) > most:
            return None
        place, held = copy
        names = dict(zip(needs[place], held))
        part = body_at(definitions[place[0]][1], place[1])
        if part[0] == "fun":
            names[part[1]] = numbers[copy]
        row = []
        for child, given in naive_family_below(definitions, *place):
            inner = (child, tuple(names[given[need]] for need in needs[child]))
            if inner not in numbers:
                numbers[inner] = len(order)
                order.append(inner)
            row.append(numbers[inner])
        rows.append((part, held, tuple(row)))
    return order, rows


def naive_graph_of_copies(rows):
    """The nodes for copies; there is one variable for each function, although several places can stand for it."""
    first = {}
    for number, (part, held, _) in enumerate(rows):
        if part[0] == "name":
            first.setdefault(held[0], number)
    made = []
    for part, held, row in rows:
        row = tuple(first[rows[child][1][0]] if rows[child][0][0] == "name" else child for child in row)
        if part[0] == "word":
            made.append(("word", part[1], row))
        else:
            made.append(("fun", row[0]) if part[0] == "fun" else ("var", held[0]))
    # A variable that does not stand for its function any more stands nowhere.
    return tuple(("word", "k", ()) if node[0] == "var" and first[node[1]] != at else node for at, node in enumerate(made)), first


def permuted(many):
    """A family in which a definition is called with its parameters in all orders."""
    names = "abcdefgh"[:many]
    swapped, turned = [names[1], names[0], *names[2:]], [*names[1:], names[0]]
    around = "".join(f"fun {name}. " for name in names)
    return read_family(f"main[] = {around}g[{', '.join(names)}]\ng[{', '.join(names)}] = f(a, g[{', '.join(swapped)}], g[{', '.join(turned)}])")


class Examples(Case):

    def test_graphs_and_terms(self):
        self.assertIs(is_plain(KEPT), True)
        self.assertIs(is_plain(PASSED), False)
        self.assertEqual(graph_of_family(KEPT), graph_of(APART))
        self.assertEqual(write(taken(KEPT)), "fun va. let db = fun vb. at(va, db) in db")
        self.assertEqual(TURN.size, 3)
        self.assertEqual(graph_of_family(TURN).nodes, (
            ("fun", 1), ("fun", 2), ("word", "pair", (3, 4)), ("var", 0), ("word", "pair", (5, 2)), ("var", 1),
        ))

    def test_copies(self):
        self.assertEqual(copies(KEPT), {("g", ()): (1,), ("g", (0,)): (2,), ("g", (0, 0)): (3,), ("main", ()): (0,)})
        self.assertEqual(copies(TURN)[("g", ())], (2, 4))
        self.assertEqual(copies(TURN)[("g", (0,))], (3, 5))


class Nested(Case):

    def check(self, definitions):
        """Compare all results for a family with those that are worked out in another way."""
        family = Family.of(definitions)
        chained = naive_has_ring(naive_anchors(definitions))
        self.assertIs(is_plain(family), not chained)
        if chained:
            for call in (graph_of_family, taken, copies):
                with self.assertRaises(Chained) as caught:
                    call(family)
                self.assertIs(is_chain(family, caught.exception.chain), True)
            return "chain"
        found = naive_copies(definitions, 100)
        if found is None:
            return "many"
        order, rows = found
        nodes, first = naive_graph_of_copies(rows)
        graph = graph_of_family(family)
        self.assertEqual(graph, least(Graph.of(nodes)))
        self.assertIs(is_least(graph), True)
        self.assertIs(alike_programs(family, graph), True)
        self.assertIsNone(naive_program_difference(family, graph, 6))
        self.assertEqual(taken(family), term_of(graph))
        self.check_copies(family, definitions, order, rows)
        return "less" if len([node for node in graph if node[0] != "var"]) <= family.size else "greater"

    def check_copies(self, family, definitions, order, rows):
        nodes, first = naive_graph_of_copies(rows)
        walked = naive_numbers(nodes)
        onto = map_onto(Graph.of(nodes), graph_of_family(family))
        wanted = {}
        for number, (place, held) in enumerate(order):
            if body_at(definitions[place[0]][1], place[1])[0] == "name":
                number = first[held[0]]
            wanted.setdefault(place, set()).add(onto[walked[number]])
        result = copies(family)
        self.assertEqual(result, {place: tuple(sorted(wanted[place])) for place in wanted})
        self.assertEqual(list(result), naive_family_places(definitions))

    def test_families(self):
        many = {}
        rng = random.Random(191)
        for made in some_families(192, 50):
            kind = self.check(made)
            many[kind] = many.get(kind, 0) + 1
            for change in (copied_family, turned_family, padded_family):
                other = change(rng, made)
                if kind in ("less", "greater") and naive_fits_in(other):
                    self.assertEqual(graph_of_family(Family.of(other)), graph_of_family(Family.of(made)))
        self.assertGreater(min(many[kind] for kind in ("less", "greater", "chain")), 10)

    def test_graphs_come_back(self):
        rng = random.Random(193)
        graphs = [graph_of(read(text)) for text in TEXTS] + [Graph.of(nodes) for nodes, _ in alike_nodes(rng, 40, 40)]
        for graph in graphs:
            self.assertIs(is_plain(family_of(graph)), True)
            self.assertEqual(graph_of_family(family_of(graph)), least(graph))
            self.assertEqual(graph_of_family(least_family(graph)), least(graph))

    def test_parameters_exchanged_in_all_ways(self):
        for many, orders in ((2, 2), (3, 6), (4, 24)):
            family = permuted(many)
            graph = graph_of_family(family)
            self.assertEqual(len(graph), 2 * many + orders)
            self.assertEqual(len(copies(family)[("g", ())]), orders)
            self.assertEqual(len(copies(family)[("g", (0,))]), many)
            self.assertIs(alike_programs(family, graph), True)
            self.assertIs(is_least(graph), True)
        for many in (5, 8):
            self.assertIs(is_plain(permuted(many)), True)
            for call in (graph_of_family, taken, copies):
                self.fails((TooMany, ("limit", 100)), call, permuted(many))

    def test_a_hundred_nodes(self):
        row = "main[] = fun a. fun b. g[a, b]\ng[x, y] = " + "f(" * 47 + "h(x, g[y, x])" + ")" * 47
        self.assertEqual(len(graph_of_family(read_family(row))), 100)
        row = "main[] = k(fun a. fun b. g[a, b])\ng[x, y] = " + "f(" * 47 + "h(x, g[y, x])" + ")" * 47
        self.fails((TooMany, ("limit", 100)), graph_of_family, read_family(row))
        self.assertIs(is_plain(read_family(row)), True)

    def test_chains_come_ahead_of_too_many_nodes(self):
        family = permuted(5)
        both = family.with_definition("h", ("x",), ("fun", "y", ("word", "at", (("name", "x"), ("call", "h", ("y",))))))
        both = both.with_definition("main", (), ("word", "f", (family["main"][1], ("fun", "z", ("call", "h", ("z",))))))
        self.assertIs(is_plain(both), False)
        for call in (graph_of_family, taken, copies):
            with self.assertRaises(Chained) as caught:
                call(both)
            self.assertIs(is_chain(both, caught.exception.chain), True)
        self.fails((Chained, ("chain", chain(PASSED))), graph_of_family, PASSED)

    def test_functions_around_calls(self):
        family = read_family("main[] = fun a. g[a]\ng[x] = f(x, fun y. h[x, y])\nh[x, y] = pair(y, g[x])")
        self.assertEqual(write(taken(family)), "fun va. let db = f(va, fun vd. pair(vd, db)) in db")
        family = read_family("main[] = fun a. g[a]\ng[x] = f(x, fun y. h[x, y])\nh[x, y] = pair(y, fun z. g[x])")
        self.assertEqual(copies(family)[("h", (1,))], (6,))
        self.assertEqual(write(taken(family)), "fun va. let db = f(va, fun vd. pair(vd, fun vg. db)) in db")

    def test_long_ones(self):
        self.assertEqual(graph_of_family(family_of(Graph.of(ring(99, (98,))))), Graph.of(ring(99, (98,))))
        names = [one + other for one in "bcdef" for other in "abcdefghijklmnopqrst"][:49]
        row = {"main": ((), ("fun", "a", ("call", names[0], ("a",))))}
        for at, name in enumerate(names):
            row[name] = (("x",), ("fun", "y", ("word", "at", (("name", "x"), ("call", names[(at + 1) % 49], ("x",))))))
        self.assertEqual(len(graph_of_family(Family.of(row))), 4)
        self.assertEqual(set(copies(Family.of(row)).values()), {(0,), (1,), (2,), (3,)})

    def test_wrong_arguments(self):
        for call in (is_plain, graph_of_family, taken, copies):
            check_errors(self, call, ([KEPT], wrong_families()))
            self.fails(InvalidFamily, call, graph_of(APART))


def naive_numbers(nodes):
    """A dict from the numbers of nodes to those of the first walk, as far as they are reached."""
    found = {}

    def go(node):
        if node in found:
            return
        found[node] = len(found)
        kind, *rest = nodes[node]
        for child in {"word": rest[-1], "fun": rest, "var": ()}[kind]:
            go(child)
    go(0)
    return found


if __name__ == "__main__":
    unittest.main()
