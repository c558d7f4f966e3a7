"""Tests of least families and parts: [0.16], [0.19], [16.1] to [16.3]."""

import itertools
import random
import unittest

from sharedlets.errors import InvalidFamily, InvalidOperation, TooMany
from sharedlets.families.alike import alike_programs
from sharedlets.families.families import Family
from sharedlets.families.least import is_least_family, least_family, open_parts, renaming
from sharedlets.families.lifted import family_of, unneeded, without_unneeded
from sharedlets.families.texts import read_family, write_family
from sharedlets.graphs.graphs import Graph
from sharedlets.graphs.made import graph_of
from sharedlets.least.least import least
from sharedlets.terms.texts import read
from tests.helper import (
    APART, FAMILY_TEXTS, LONG, TEXTS, Case, alike_nodes, body_at, body_paths, changed_family, check_errors, copied_family, exchanged,
    letters, naive_family_below, naive_family_places, naive_fits_in, naive_lead, naive_needs_of, odd_values, padded_family, ring,
    some_families, turned_family, wrong_families, wrong_programs,
)

KEPT = read_family(FAMILY_TEXTS[0])
PASSED = read_family(FAMILY_TEXTS[1])
TWICE = graph_of(read("pair(fun a. k(a), fun b. m(k(b)))"))


def wrapped(definitions, place, order):
    """The family of the part of a place, with functions around for its needs in this order."""
    # A call can hand on a variable that is not needed.
    definitions = without_unneeded(Family.of(definitions)).definitions

    def others(body):
        if body[0] == "call":
            return ("call", "oldmain" if body[1] == "main" else body[1], body[2])
        if body[0] == "name":
            return body
        return (body[0], body[1], tuple(map(others, body[2])) if body[0] == "word" else others(body[2]))
    body = others(body_at(definitions[place[0]][1], place[1]))
    for name in order[::-1]:
        body = ("fun", name, body)
    made = {"oldmain" if name == "main" else name: (row, others(one)) for name, (row, one) in definitions.items()}
    return Family.of({**made, "main": ((), body)})


def naive_renaming(definitions, place, other):
    """The one dict between the needs of two places for which their parts are equal, or None."""
    needs = naive_needs_of(definitions, *place)
    found = []
    for order in itertools.permutations(naive_needs_of(definitions, *other)):
        if len(order) == len(needs) and alike_programs(wrapped(definitions, place, needs), wrapped(definitions, other, order)):
            found.append(dict(zip(needs, order)))
    assert len(found) <= 1
    return found[0] if found else None


def naive_order(definitions, place):
    """The needs of a place in the order of the first addresses below it at which they are used."""
    found, seen = [], set()
    level = [(place, {need: need for need in naive_needs_of(definitions, *place)})]
    while level:
        further = []
        for spot, names in level:
            part = body_at(definitions[spot[0]][1], spot[1])
            if part[0] == "name" and names[part[1]] is not None and names[part[1]] not in found:
                found.append(names[part[1]])
            for child, given in naive_family_below(definitions, *spot):
                own = {part[1]: None} if part[0] == "fun" else {}
                passed = {need: {**names, **own}[given[need]] for need in naive_needs_of(definitions, *child)}
                if (child, tuple(passed.items())) not in seen:
                    seen.add((child, tuple(passed.items())))
                    further.append((child, passed))
        level = further
    return tuple(found)


class Writer:
    """Writes down a least family as [16.2] and [16.3] tell it; parts are the tuples of the places of each part."""

    def __init__(self, definitions, parts):
        self.definitions = definitions
        self.part_of = {place: row[0] for row in parts for place in row}
        self.uses = [self.part_of[child] for row in parts for child, _ in naive_family_below(definitions, *row[0])]
        self.start = self.part_of[naive_lead(definitions, "main", (), {})[:2]]
        self.fresh = (letter for letter in [*"abcdefghijklmnopqrstuvwxyz", *(letters("a", at) for at in range(26))])
        self.titles = {self.start: "main"}
        self.made = {}
        self.define(self.start)

    def define(self, place):
        names = (letter for letter in [*"abcdefghijklmnopqrstuvwxyz", *(letters("a", at) for at in range(26))])
        row = {need: next(names) for need in naive_order(self.definitions, place)}
        self.made[self.titles[place]] = (tuple(row.values()), self.written(place, row, names))

    def written(self, place, row, names):
        part = body_at(self.definitions[place[0]][1], place[1])
        if part[0] == "name":
            return ("name", row[part[1]])
        if part[0] == "fun":
            row = {**row, part[1]: next(names)}
        inner = []
        for child, given in naive_family_below(self.definitions, *place):
            passed = {need: row[given[need]] for need in naive_needs_of(self.definitions, *child)}
            inner.append(self.child(child, passed, names))
        return ("fun", row[part[1]], inner[0]) if part[0] == "fun" else ("word", part[1], tuple(inner))

    def child(self, place, passed, names):
        lead = self.part_of[place]
        if body_at(self.definitions[place[0]][1], place[1])[0] == "name":
            return self.written(place, passed, names)
        if lead != self.start and self.uses.count(lead) == 1:
            return self.written(place, passed, names)
        if lead not in self.titles:
            self.titles[lead] = next(self.fresh)
            self.define(lead)
        return ("call", self.titles[lead], tuple(passed[need] for need in naive_order(self.definitions, place)))


class Examples(Case):

    def test_least_families(self):
        self.assertEqual(write_family(least_family(KEPT)), "main[] = fun a. a[a]\na[a] = fun b. at(a, a[a])")
        self.assertEqual(write_family(least_family(PASSED)), "main[] = fun a. a[a]\na[a] = fun b. at(a, a[b])")
        self.assertEqual(write_family(least_family(TWICE)), "main[] = pair(fun a. a[a], fun b. m(a[b]))\na[a] = k(a)")
        self.assertEqual(write_family(least_family(graph_of(LONG))), "main[] = f(g(main[]))")
        self.assertIs(is_least_family(KEPT), False)
        self.assertIs(is_least_family(least_family(KEPT)), True)

    def test_parts(self):
        self.assertEqual(open_parts(KEPT), ((("g", ()),), (("g", (0,)),), (("g", (0, 0)),), (("main", ()),)))
        self.assertEqual(renaming(PASSED, ("g", ()), ("g", ())), {"x": "x"})
        self.assertIsNone(renaming(PASSED, ("g", ()), ("main", ())))
        family = read_family("main[] = fun a. fun b. pair(k(a), k(b), f(a, b, f(b, a)))")
        inner = ("main", (0, 0))
        self.assertEqual(open_parts(family)[3:], ((("main", (0, 0, 0)), ("main", (0, 0, 1))), (
            ("main", (0, 0, 0, 0)), ("main", (0, 0, 1, 0)), ("main", (0, 0, 2, 0)), ("main", (0, 0, 2, 1)), ("main", (0, 0, 2, 2, 0)), ("main", (0, 0, 2, 2, 1)),
        ), (("main", (0, 0, 2)),), (("main", (0, 0, 2, 2)),)))
        self.assertEqual(renaming(family, ("main", (0, 0, 0)), ("main", (0, 0, 1))), {"a": "b"})
        self.assertEqual(renaming(family, inner, inner), {"a": "a", "b": "b"})

    def test_names_and_orders(self):
        family = least_family(read_family("main[] = fun x. fun y. pair(f(x, y), f(y, x), fun z. k(f(z, x), h[z, z2]))".replace(", h[z, z2]", "")))
        self.assertEqual(write_family(family), "main[] = fun a. fun b. pair(a[a, b], a[b, a], fun c. k(a[c, a]))\na[a, b] = f(a, b)")
        family = least_family(read_family("main[] = f(p[], q[], p[])\np[] = m(q[], fun a. a)\nq[] = pair(p[], r[], r[])\nr[] = fun z. z"))
        self.assertEqual(write_family(family).split("\n"), ["main[] = f(a[], b[], a[])", "a[] = m(b[], c[])", "b[] = pair(a[], c[], c[])", "c[] = fun a. a"])


class Parts(Case):

    def test_against_families_around_the_parts(self):
        rng = random.Random(162)
        many = [0, 0]
        for made in some_families(163, 12):
            family = Family.of(made)
            places = [(name, path) for name, (_, body) in made.items() for path in body_paths(body) if body_at(body, path)[0] != "call"]
            places = [place for place in places if len(naive_needs_of(made, *place)) <= 3]
            for _ in range(10):
                place, other = rng.choice(places), rng.choice(places)
                if sum(place == other for place in places) and len(wrapped_size(made, place)) <= 90:
                    wanted = naive_renaming(made, place, other)
                    found = renaming(family, place, other)
                    many[found is not None] += 1
                    self.assertEqual(found, wanted)
                    self.assertEqual(list(found or {}), sorted(found or {}))
        self.assertGreater(min(many), 40)

    def test_all_reached_places(self):
        for made in some_families(164, 25):
            family = Family.of(made)
            parts = open_parts(family)
            places = [place for row in parts for place in row]
            self.assertEqual(sorted(places), naive_family_places(made))
            self.assertTrue(all(list(row) == sorted(row) for row in parts))
            self.assertEqual([row[0] for row in parts], sorted(row[0] for row in parts))
            for row in parts:
                self.assertTrue(all(renaming(family, row[0], place) is not None for place in row))
            for one, two in itertools.combinations(parts, 2):
                self.assertIsNone(renaming(family, one[0], two[0]))

    def test_places_that_are_not_reached(self):
        family = read_family("main[] = k()\ng[x, y] = f(y, h[y, x])\nh[u, v] = f(u, g[v, u])")
        self.assertEqual(renaming(family, ("g", ()), ("h", ())), {"y": "u"})
        self.assertEqual(open_parts(family), ((("main", ()),),))
        family = read_family("main[] = k()\ng[x, y] = f(y, h[x, y])\nh[u, v] = f(u, g[v, u])")
        self.assertIsNone(renaming(family, ("g", ()), ("h", ())))
        self.assertEqual(renaming(family, ("h", (0,)), ("g", (0,))), {"u": "y"})

    def test_results_can_be_changed(self):
        renaming(PASSED, ("g", ()), ("g", ()))["x"] = "z"
        self.assertEqual(renaming(PASSED, ("g", ()), ("g", ())), {"x": "x"})

    def test_wrong_arguments(self):
        places = [("g", ()), ("g", (0,))]
        wrong = [(value, InvalidOperation) for value in odd_values()]
        wrong += [(value, InvalidOperation) for value in exchanged(("g", (0, 0)), odd_values()[:50]) if repr(value) not in map(repr, [("g", (0, 0)), ("g", (0,)), ("g", ())])]
        wrong += [(("g", (0, 1)), InvalidOperation), (("main", (0,)), InvalidOperation), (("h", ()), InvalidOperation), (("g", (False,)), InvalidOperation)]
        check_errors(self, open_parts, ([KEPT], wrong_families()))
        check_errors(self, renaming, ([KEPT], wrong_families()[::9]), (places, wrong), (places, wrong))
        self.fails(InvalidFamily, open_parts, graph_of(APART))
        self.fails(InvalidFamily, renaming, graph_of(APART), 0, 0)


def wrapped_size(definitions, place):
    return [path for _, body in definitions.values() for path in body_paths(body)]


class LeastFamilies(Case):

    def check(self, program, definitions):
        """Compare the least family with what is written down by the words of the document."""
        family = least_family(program)
        self.assertEqual(family.definitions, Writer(definitions, open_parts(Family.of(definitions))).made)
        self.assertIs(alike_programs(family, program), True)
        self.assertEqual(least_family(family), family)
        self.assertIs(is_least_family(family), True)
        self.assertEqual(unneeded(family), ())
        self.assertEqual(family.reached(), family.names)
        return family

    def test_families(self):
        rng = random.Random(165)
        shared = 0
        for made in some_families(166, 30):
            family = self.check(Family.of(made), made)
            shared += any(len(row) > 1 for row, _ in family.definitions.values())
            self.assertLessEqual(family.size, Family.of(made).size)
            self.assertIs(is_least_family(Family.of(made)), family.definitions == made)
            for change in (copied_family, turned_family, padded_family):
                other = change(rng, made)
                if naive_fits_in(other):
                    self.assertEqual(least_family(Family.of(other)), family)
                    self.assertIs(is_least_family(Family.of(other)), other == family.definitions)
        self.assertGreater(shared, 20)

    def test_families_that_are_not_alike(self):
        rng = random.Random(167)
        many = [0, 0]
        for made in some_families(168, 30):
            other = changed_family(rng, made)
            if naive_fits_in(other):
                family, further = Family.of(made), Family.of(other)
                same = least_family(family) == least_family(further)
                many[same] += 1
                self.assertIs(same, alike_programs(family, further))
        self.assertGreater(min(many), 20)

    def test_graphs(self):
        rng = random.Random(169)
        graphs = [graph_of(read(text)) for text in TEXTS] + [Graph.of(nodes) for nodes, _ in alike_nodes(rng, 30, 30)]
        for graph in graphs:
            family = self.check(graph, family_of(graph).definitions)
            self.assertEqual(least_family(least(graph)), family)
            self.assertLessEqual(family.size, len([node for node in least(graph) if node[0] != "var"]))

    def test_families_that_are_not_least(self):
        for family in (least_family(KEPT), least_family(TWICE), least_family(read_family(FAMILY_TEXTS[8]))):
            self.assertIs(is_least_family(family), True)
            self.assertIs(is_least_family(family.renamed(a="b")), False)
            self.assertIs(is_least_family(family.with_definition("b", (), ("word", "k", ()))), False)
        for text in (
            "main[] = fun b. a[b]\na[a] = fun b. at(a, a[a])", "main[] = fun a. a[a]\na[b] = fun a. at(b, a[b])",
            "main[] = fun a. b[a]\nb[a] = fun b. at(a, b[a])", "main[] = fun a. a[a]\na[a] = fun c. at(a, a[a])",
            "main[] = fun a. fun b. at(a, a[a])\na[a] = fun b. at(a, a[a])", "main[] = fun a. a[a]\na[a] = fun a. at(a, a[a])",
            "main[] = fun a. a[a]\na[a] = b[a]\nb[a] = fun b. at(a, a[a])",
        ):
            self.assertIs(is_least_family(read_family(text)), False)

    def test_more_than_eight_parameters(self):
        for many in (8, 9):
            names = [letters("v", at) for at in range(9)]
            inner = f"f(f({', '.join(names[:3])}), f({', '.join(names[3:6])}), f({', '.join(names[6:many])}))"
            around = "".join(f"fun {name}. " for name in names)
            family = read_family(f"main[] = {around}pair({inner}, m({inner}))")
            graph = graph_of(read(f"{around}pair({inner}, m({inner}))"))
            for program in (family, graph):
                if many == 9:
                    self.fails((TooMany, ("limit", 8)), least_family, program)
                else:
                    self.assertEqual([len(row) for row, _ in least_family(program).definitions.values()], [8, 3, 0])
            self.assertIs(is_least_family(family), False)

    def test_wrong_arguments(self):
        check_errors(self, least_family, ([KEPT], wrong_programs()))
        check_errors(self, is_least_family, ([KEPT], wrong_families()))
        self.fails(InvalidFamily, is_least_family, TWICE)

    def test_long_ones(self):
        self.assertEqual(write_family(least_family(Graph.of(ring(100)))), "main[] = f(main[])")
        odd = Graph.of(ring(100, (99,)))
        family = least_family(odd)
        self.assertEqual((len(family), family.size), (1, 100))
        nodes = [("word", "f", tuple(min(2 * at + more, 99) for more in (1, 2))) for at in range(99)] + [("word", "k", ())]
        family = least_family(Graph.of(tuple(nodes)))
        self.assertIs(is_least_family(family), True)
        row = {"main": ((), ("word", "f", (("call", "gaa", ()),)))}
        names = [letters("g" + one, at) for one in "abcd" for at in range(26)][:99]
        for at, name in enumerate(names):
            row[name] = ((), ("word", "g", (("call", names[at - 1], ()), ("call", names[at // 2], ()))) if at % 3 else ("word", "h", (("call", names[at - 1], ()),)))
        family = least_family(Family.of(row))
        self.assertIs(alike_programs(family, Family.of(row)), True)
        self.assertIs(is_least_family(family), True)


if __name__ == "__main__":
    unittest.main()
