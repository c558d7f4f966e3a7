"""Tests of rows, anchors and chains: [0.18], [18.1] to [18.3]."""

import itertools
import random
import unittest

from sharedlets.chains.chains import anchors, chain, is_chain, longest_row, row_at, walked
from sharedlets.errors import InvalidAddress, InvalidFamily, InvalidOperation
from sharedlets.families.families import Family
from sharedlets.families.least import renaming
from sharedlets.families.lifted import family_of
from sharedlets.families.texts import read_body, read_family
from sharedlets.graphs.graphs import Graph
from sharedlets.graphs.made import graph_of
from sharedlets.terms.texts import read
from tests.helper import (
    APART, CROSS, FAMILY_TEXTS, TEXTS, Case, alike_nodes, body_at, body_inner, check_errors, exchanged, naive_anchors, naive_below, naive_has_ring, naive_lead,
    naive_row, naive_spots, shown,
    odd_values, random_graph_nodes, some_families, wrong_families, wrong_numbers, wrong_programs,
)

KEPT = read_family(FAMILY_TEXTS[0])
PASSED = read_family(FAMILY_TEXTS[1])
ONCE = ("chain", (0,), ((0, 1),))


def naive_is_chain(family, value):
    """Whether a value that is built like a chain is one of a family, by the words of [0.18]."""
    _, start, pieces = value
    ends = [start]
    for piece in pieces:
        ends.append(ends[-1] + piece)
    spots = naive_line(family, ends[-1])
    if any(end not in spots or spots[end][0] != ("fun",) for end in ends):
        return False
    for end, further in zip(ends, ends[1:]):
        needed = spots[further][1]
        if len(end) not in needed or any(len(end) < length < len(further) for length in needed):
            return False
    return renaming(family, spots[ends[0]][2], spots[ends[-1]][2]) is not None


def naive_line(family, address):
    """As naive_spots, for the beginnings of one address alone."""
    spots = {}
    at, place = (), ("main", (), {})
    while True:
        name, path, names = naive_lead(family.definitions, *place)
        part = body_at(family[name][1], path)
        look = {"name": ("var",), "fun": ("fun",), "word": ("word", part[1])}[part[0]]
        spots[at] = (look, naive_below(family.definitions, name, path, names), (name, path))
        if len(at) == len(address) or address[len(at)] >= len(body_inner(part)):
            return spots
        if part[0] == "fun":
            names = {**names, part[1]: len(at)}
        step = address[len(at)]
        at, place = at + (step,), (name, path + (step,), names)


def longest_path(pairs, function):
    """How many functions are in the longest row of anchors that ends with this one."""
    return 1 + max([longest_path(pairs, one) for one, other in pairs if other == function], default=0)


class Examples(Case):

    def test_rows(self):
        self.assertEqual(row_at(PASSED, (0, 0, 1)), ((), (0,)))
        self.assertEqual(row_at(KEPT, (0, 0, 1)), ((),))
        self.assertEqual(row_at(graph_of(CROSS), (0, 1, 0)), ((),))

    def test_anchors(self):
        self.assertEqual(anchors(PASSED), ((("g", ()), ("g", ())), (("main", ()), ("g", ()))))
        self.assertEqual(anchors(KEPT), ((("main", ()), ("g", ())),))
        self.assertIsNone(longest_row(PASSED))
        self.assertEqual(longest_row(KEPT), 1)

    def test_chains(self):
        self.assertIs(is_chain(PASSED, ONCE), True)
        self.assertIs(is_chain(PASSED, ("chain", (), ((0,),))), False)
        self.assertIs(is_chain(KEPT, ONCE), False)
        self.assertEqual(walked(PASSED, ONCE, 2), (0, 0, 1, 0, 1))
        self.assertIsNone(chain(KEPT))
        self.assertIs(is_chain(PASSED, chain(PASSED)), True)


class Rows(Case):

    def test_all_places_down_to_a_depth(self):
        rng = random.Random(181)
        programs = [Family.of(made) for made in some_families(182, 25)] + [graph_of(read(text)) for text in TEXTS]
        programs += [Graph.of(nodes) for nodes in random_graph_nodes(rng, 20, 12)]
        longest = 0
        for program in programs:
            spots = naive_spots(program, 7)
            for address in spots:
                wanted = naive_row(spots, address)
                longest = max(longest, len(wanted))
                self.assertEqual(row_at(program, address), wanted)
                for one, other in zip(wanted, wanted[1:]):
                    self.assertEqual(max(spots[other][1]), len(one))
        self.assertGreaterEqual(longest, 4)

    def test_far_down(self):
        self.assertEqual(row_at(PASSED, (0,) + (0, 1) * 500), tuple((0,) * (at > 0) + (0, 1) * (at - 1) for at in range(501)))
        self.assertEqual(row_at(KEPT, (0,) + (0, 1) * 500), ((),))

    def test_wrong_arguments(self):
        wrong = [(value, InvalidAddress) for value in odd_values() if value not in ((), (0,))]
        wrong += [(value, InvalidAddress) for value in ((((0,), 1),), (0, 0, 2), (0, 0, 0, 0), (1,))]
        check_errors(self, row_at, ([PASSED, graph_of(APART)], wrong_programs()), ([(), (0,)], wrong))


class Anchors(Case):

    def check(self, family, definitions):
        wanted = naive_anchors(definitions)
        self.assertEqual(anchors(family), tuple(sorted(wanted)))
        found = chain(family)
        if naive_has_ring(wanted):
            self.assertIsNone(longest_row(family))
            self.assertIs(naive_is_chain(family, found), True)
            self.assertIs(is_chain(family, found), True)
            return len(found[2])
        self.assertIsNone(found)
        spots = naive_spots(family, 7)
        self.assertGreaterEqual(longest_row(family), max(len(naive_row(spots, address)) for address in spots))
        ends = {spots[naive_row(spots, address)[-1]][2] for address in spots if spots[address][1]}
        if max(map(len, spots)) < 7:
            self.assertEqual(longest_row(family), max(len(naive_row(spots, address)) for address in spots))
        self.assertGreaterEqual(longest_row(family), max([longest_path(wanted, end) for end in ends], default=0))
        return 0

    def test_families(self):
        many = {}
        for made in some_families(183, 60):
            pieces = self.check(Family.of(made), made)
            many[pieces] = many.get(pieces, 0) + 1
        self.assertGreater(many[0], 40)
        self.assertGreater(many[1], 10)
        self.assertGreater(many[2], 1)

    def test_families_of_graphs_have_no_chain(self):
        rng = random.Random(184)
        graphs = [graph_of(read(text)) for text in TEXTS] + [Graph.of(nodes) for nodes, _ in alike_nodes(rng, 20, 25)]
        for graph in graphs:
            family = family_of(graph)
            self.assertEqual(self.check(family, family.definitions), 0)
            self.assertEqual(longest_row(family), self.longest_in(graph))

    def longest_in(self, graph):
        """The greatest number of functions in a row of a graph: the longest scope with an innermost function above all."""
        return max([len(graph.scope(node)) for node in range(len(graph))])

    def test_longest_rows(self):
        for text, wanted in (
            ("main[] = k()", 0), ("main[] = fun a. k()", 0), ("main[] = fun a. a", 1), ("main[] = fun a. fun b. a", 1),
            ("main[] = fun a. fun b. b", 1), ("main[] = fun a. fun b. f(a, b)", 2), ("main[] = fun a. fun b. fun c. f(f(a, b), c)", 3),
            ("main[] = fun a. fun b. fun c. f(a, fun d. c)", 2), ("main[] = fun a. f(a, main[])", 1),
            ("main[] = fun a. g[a]\ng[x] = fun y. h[x, y]\nh[x, y] = fun z. f(x, y)", 2),
        ):
            self.assertEqual(longest_row(read_family(text)), wanted, text)

    def test_rings_of_several_places(self):
        family = read_family("main[] = fun a. p[a]\np[x] = fun y. at(x, q[y])\nq[x] = fun z. at(x, r[z])\nr[x] = fun u. at(x, p[u])")
        self.assertEqual(anchors(family), (
            (("main", ()), ("p", ())), (("p", ()), ("q", ())), (("q", ()), ("r", ())), (("r", ()), ("p", ())),
        ))
        found = chain(family)
        self.assertIs(naive_is_chain(family, found), True)
        self.assertEqual(sorted(map(len, found[2])), [2, 2, 2])

    def test_parameters_exchanged_on_the_way(self):
        row = "main[] = fun a. fun b. f(g[a, b])\ng[x, y] = "
        held = read_family(row + "fun z. pair(x, y, f(g[y, x]))")
        self.assertIsNone(chain(held))
        self.assertEqual(longest_row(held), 2)
        handed = read_family(row + "f(pair(x, h[y, x]))\nh[u, v] = fun z. at(u, g[v, z])")
        self.assertIs(naive_is_chain(handed, chain(handed)), True)
        self.check(handed, handed.definitions)

    def test_start_that_is_deep(self):
        family = read_family("main[] = " + "f(" * 30 + "fun a. g[a]" + ")" * 30 + "\ng[x] = " + "m(" * 20 + "fun y. at(x, g[y])" + ")" * 20)
        found = chain(family)
        self.assertEqual(found, ("chain", (0,) * 51, ((0, 1) + (0,) * 20,)))
        self.assertIs(is_chain(family, found), True)

    def test_places_that_are_not_reached(self):
        family = read_family("main[] = fun a. a\ng[x] = fun y. at(x, g[y])")
        self.assertEqual(anchors(family), ())
        self.assertEqual(longest_row(family), 1)
        self.assertIsNone(chain(family))

    def test_wrong_arguments(self):
        for call in (anchors, longest_row, chain):
            check_errors(self, call, ([PASSED], wrong_families()))
            self.fails(InvalidFamily, call, graph_of(APART))


class Chains(Case):

    def test_all_small_values(self):
        pieces = [piece for many in range(1, 4) for piece in itertools.product(range(2), repeat=many)]
        families = [PASSED, read_family(FAMILY_TEXTS[10]), read_family("main[] = fun a. p[a]\np[x] = fun y. at(x, q[y])\nq[x] = fun z. at(x, p[z])")]
        for family in families:
            many = [0, 0]
            for start in [(), (0,), (1,), (0, 0), (0, 0, 1), (0, 0, 0)]:
                for row in [(piece,) for piece in pieces] + [(one, other) for one in pieces[:6] for other in pieces[:6]]:
                    value = ("chain", start, row)
                    wanted = naive_is_chain(family, value)
                    many[wanted] += 1
                    self.assertIs(is_chain(family, value), wanted)
            self.assertGreater(many[1], 0)

    def test_pieces_gone_through_more_than_once(self):
        for made in some_families(185, 40):
            family = Family.of(made)
            found = chain(family)
            if found is None:
                continue
            _, start, pieces = found
            self.assertIs(is_chain(family, ("chain", start, pieces * 2)), True)
            self.assertIs(is_chain(family, ("chain", start, pieces * 40)), True)
            self.assertIs(is_chain(family, ("chain", walked(family, found, 1), pieces)), True)
            self.assertIs(is_chain(family, ("chain", start + pieces[0], pieces[1:] + pieces[:1])), True)
            if len(pieces) > 1:
                self.assertIs(is_chain(family, ("chain", start, pieces[:-1])), naive_is_chain(family, ("chain", start, pieces[:-1])))
                self.assertIs(is_chain(family, ("chain", start, (sum(pieces, ()),))), False)

    def test_same_open_part_at_another_place(self):
        family = read_family("main[] = fun a. g[a]\ng[x] = fun y. at(x, h[y])\nh[x] = fun y. at(x, g[y])")
        self.assertIs(is_chain(family, ONCE), True)
        family = read_family("main[] = fun a. g[a]\ng[x] = fun y. at(x, h[y])\nh[x] = fun y. to(x, g[y])")
        self.assertIs(is_chain(family, ONCE), False)
        self.assertIs(is_chain(family, ("chain", (0,), ((0, 1), (0, 1)))), True)

    def test_pieces_that_lead_to_functions_with_other_anchors_or_none(self):
        family = read_family("main[] = fun a. f(g[a], main[])\ng[x] = fun y. at(x, g[y], fun z. f(x, k(z)))")
        for start, pieces, wanted in (
            ((0, 0), ((0, 1),), True), ((), ((0, 1),), False), ((), ((0, 1), (0, 0)), False), ((0, 0), ((0, 2),), False), ((0, 0), ((0, 1), (0, 2)), False),
            ((0, 1, 0, 0), ((0, 1), (0, 1)), True), ((0, 1), ((0, 0),), False), ((0, 0), ((0,),), False), ((0,), ((0,),), False), ((0, 0, 0, 2), ((0,),), False),
        ):
            value = ("chain", start, pieces)
            self.assertIs(naive_is_chain(family, value), wanted)
            self.assertIs(is_chain(family, value), wanted, value)

    def test_values_that_are_none(self):
        for value in odd_values() + [
            ("chain", (0,), ()), ("chain", (0,), ((),)), ("chain", (0,), ((0, 1), ())), ("chain", (0,), [(0, 1)]), ["chain", (0,), ((0, 1),)],
            ("chain", (((0,), 1),), ((0, 1),)), ("chain", (0,), ((((0, 1), 1),),)), ("chain", (0,), ((0, True),)), ("chain", (False,), ((0, 1),)),
            ("chains", (0,), ((0, 1),)), ("chain", [0], ((0, 1),)), ("chain", (0,), ((0, 1),), ()), ("chain", (0, 0), ((1,),)),
            ("chain", (0,), ((0, 1, 1),)), ("chain", (0, 0, 0), ((0,),)), ("chain", (0,), ((0, 0),)), ("chain", (0,), ((0,),)),
            ("chain", (0,), ((0, 1, 0, 1),)), ("chain", (0,), ((0, 1), (0, 1, 0, 1))), ("chain", (0,), (0, 1)), ("chain", (5,), ((0, 1),)),
        ]:
            self.assertIs(is_chain(PASSED, value), False, shown(value))
        for value in exchanged(ONCE, odd_values()[:50]):
            self.assertIs(is_chain(PASSED, value), repr(value) == repr(ONCE))
        check_errors(self, is_chain, ([PASSED], wrong_families()), ([ONCE, None], []))

    def test_walks(self):
        for many in range(51):
            self.assertEqual(walked(PASSED, ONCE, many), (0,) + (0, 1) * many)
        family = read_family(FAMILY_TEXTS[10])
        found = chain(family)
        address = walked(family, found, 50)
        self.assertEqual(address, found[1] + sum(found[2], ()) * 50)
        self.assertEqual(len(row_at(family, address)), len(row_at(family, found[1])) + 50 * len(found[2]))

    def test_wrong_arguments_of_walks(self):
        wrong = [(value, InvalidOperation) for value in odd_values() + [("chain", (0,), ()), ("chain", (), ((0,),)), ("chain", (0,), ((0, 0),))]]
        check_errors(self, walked, ([PASSED], wrong_families()[::7]), ([ONCE], wrong), ([0, 50], wrong_numbers(51)))
        self.fails(InvalidOperation, walked, KEPT, ONCE, 51)


class LongOnes(Case):

    def test_parameters_exchanged_in_all_ways(self):
        names = "abcdefgh"
        row = "main[] = " + "".join(f"fun {name}. " for name in names) + "g[a, b, c, d, e, f, g, h]\n"
        inner = "f(g[b, a, c, d, e, f, g, h], g[b, c, d, e, f, g, h, a], f(f(a, fun x. f(x, f(b, c, d), e)), fun x. h[a, b, x]))"
        family = read_family(row + f"g[a, b, c, d, e, f, g, h] = {inner}\nh[x, y, z] = f(fun a. f(x, y, a), fun a. f(a, y, z))")
        found = anchors(family)
        self.assertEqual(longest_row(family), 10)
        self.assertIn((("g", (2, 1)), ("h", (1,))), found)
        self.assertIsNone(chain(family))
        handed = family.with_definition("h", ("x", "y", "z"), read_body("fun a. f(x, y, h[y, z, a])"))
        found = chain(handed)
        self.assertIs(is_chain(handed, found), True)

    def test_a_hundred_functions_in_a_ring(self):
        names = [one + other for one in "bcdef" for other in "abcdefghijklmnopqrst"][:49]
        row = {"main": ((), ("fun", "a", ("call", names[0], ("a",))))}
        for at, name in enumerate(names):
            row[name] = (("x",), ("fun", "y", ("word", "at", (("name", "x"), ("call", names[(at + 1) % 49], ("y",))))))
        family = Family.of(row)
        self.assertEqual(len(anchors(family)), 50)
        found = chain(family)
        self.assertEqual(len(found[2]), 49)
        self.assertIs(is_chain(family, found), True)
        self.assertEqual(len(walked(family, found, 50)), len(found[1]) + 49 * 2 * 50)
        self.assertEqual(len(row_at(family, walked(family, found, 5))), len(row_at(family, found[1])) + 49 * 5)

    def test_a_hundred_functions_in_one_another(self):
        body = ("name", "v")
        for at in range(49):
            body = ("fun", "v", ("word", "f", (("name", "v"), body)))
        self.assertEqual(longest_row(Family(body)), 1)
        names = ["v" + one + other for one in "ab" for other in "abcdefghijklmnopqrstuvwxyz"][:49]
        body = ("word", "k", ())
        for name in names:
            body = ("word", "f", (("name", name), body))
        for name in names:
            body = ("fun", name, body)
        self.assertEqual(longest_row(Family(body)), 49)
        self.assertEqual(len(anchors(Family(body))), 48)


if __name__ == "__main__":
    unittest.main()
