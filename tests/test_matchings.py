"""Tests of matchings: [0.15], [0.19], [0.20], [7.1], [7.2]."""

import random
import unittest

from sharedlets.alike import matchings
from sharedlets.alike.matchings import are_alike, is_matching, matching, widest_matching
from sharedlets.graphs.graphs import Graph
from sharedlets.graphs.made import graph_of
from sharedlets.terms.texts import read
from tests.helper import (
    APART, CROSS, LONG, NEST, ROLL, TEXTS, Case, check_errors, children_of, doubled, exchanged, graph_pairs, mixed,
    naive_graph, naive_is_matching, naive_matching_pairs, naive_met, naive_places, naive_look, naive_scopes, odd_values,
    ring, shown, wrong_graphs,
)

K = ("word", "k", ())


def pairs_of_graphs():
    for nodes, others in graph_pairs(71):
        yield Graph.of(nodes), Graph.of(others)


def turned(pairs):
    return tuple(sorted((two, one) for one, two in pairs))


class Matchings(Case):

    def test_against_pairs_that_are_struck_out(self):
        many = [0, 0]
        for graph, other in pairs_of_graphs():
            wanted = naive_matching_pairs(graph.nodes, other.nodes)
            alike = (0, 0) in wanted
            many[alike] += 1
            self.assertIs(are_alike(graph, other), alike)
            self.assertEqual(widest_matching(graph, other), tuple(sorted(wanted)) if alike else None)
            self.assertIs(are_alike(other, graph), alike)
            found = matching(graph, other)
            if not alike:
                self.assertIsNone(found)
                self.assertIs(is_matching(graph, other, naive_met(graph.nodes, other.nodes)), False)
                continue
            self.assertIs(type(found), tuple)
            self.assertLessEqual(set(naive_met(graph.nodes, other.nodes)), set(found))
            self.assertLessEqual(set(found), wanted)
            self.assertTrue(naive_is_matching(graph.nodes, other.nodes, found))
            for value in (found, widest_matching(graph, other), naive_met(graph.nodes, other.nodes)):
                self.assertIs(is_matching(graph, other, value), True)
                self.assertIs(is_matching(other, graph, turned(value)), True)
            self.assertEqual(widest_matching(other, graph), turned(wanted))
        self.assertGreater(min(many), 40)

    def test_alike_graphs_have_equal_looks(self):
        for graph, other in pairs_of_graphs():
            if len(graph) > 12 or len(other) > 12:
                continue
            places, others = naive_places(graph.nodes, 6), naive_places(other.nodes, 6)
            same = places.keys() == others.keys() and all(
                naive_look(graph.nodes, way) == naive_look(other.nodes, others[address]) for address, way in places.items())
            if are_alike(graph, other):
                self.assertTrue(same)
                met = {(way[-1], others[address][-1]) for address, way in places.items()}
                self.assertLessEqual(met, set(matching(graph, other)))

    def test_terms_and_the_same_with_definitions_twice(self):
        rng = random.Random(72)
        for text in TEXTS:
            graph = graph_of(read(text))
            other = graph_of(doubled(rng, read(text)))
            self.assertTrue(are_alike(graph, other))
            self.assertEqual(graph.nodes, naive_graph(read(text)))

    def test_rolled_long_and_nested(self):
        self.assertEqual(matching(graph_of(ROLL), graph_of(LONG)), ((0, 0), (0, 2), (1, 1), (1, 3)))
        self.assertEqual(matching(graph_of(LONG), graph_of(ROLL)), ((0, 0), (1, 1), (2, 0), (3, 1)))
        named = [graph_of(term) for term in (ROLL, NEST, CROSS, APART)]
        for one in named:
            for other in named:
                self.assertIs(are_alike(one, other), one == other)
                self.assertIs(matching(one, other) is None, one != other)

    def test_the_widest_matching_has_pairs_that_are_not_met(self):
        two = graph_of(read("pair(f(), f())"))
        self.assertEqual(matching(two, two), ((0, 0), (1, 1), (2, 2)))
        for pairs in (((0, 0), (1, 1), (1, 2), (2, 2)), ((0, 0), (1, 1), (2, 1), (2, 2)), ((0, 0), (1, 1), (2, 2))):
            self.assertIs(is_matching(two, two, pairs), True)
        self.assertIs(is_matching(two, two, ((0, 0), (1, 2), (2, 1))), False)


class Scopes(Case):
    """[0.20]: what fits but for scopes is no matching."""

    def test_nest_and_cross(self):
        nest, cross = graph_of(NEST), graph_of(CROSS)
        pairs = tuple(sorted(naive_matching_pairs(nest.nodes, cross.nodes, False)))
        self.assertIn((0, 0), pairs)
        # Kinds, children and functions of variables fit, each by itself; only the scopes do not.
        self.assertEqual(pairs, ((0, 0), (0, 3), (1, 1), (1, 4), (2, 2)))
        self.assertIs(is_matching(nest, cross, pairs), False)
        self.assertIsNone(matching(nest, cross))

    def test_pairs_that_fit_but_for_scopes(self):
        many = 0
        for graph, other in pairs_of_graphs():
            pairs = naive_matching_pairs(graph.nodes, other.nodes, False)
            if (0, 0) in pairs and not are_alike(graph, other):
                many += 1
                self.assertIs(is_matching(graph, other, tuple(sorted(pairs))), False)
        self.assertGreater(many, 1)

    def test_equal_children_that_do_not_match(self):
        # Both words f have equal looks and children, but one of the functions around is another one.
        graph = graph_of(read("fun a. pair(fun b. f(b), fun c. f(a))"))
        pairs = widest_matching(graph, graph)
        self.assertEqual([(one, two) for one, two in pairs if one != two], [])
        # Below g stands what needs a, so nodes of one scope, and nodes of scopes that do not match, are not one.
        inner = graph_of(read("fun a. let g = fun b. at(b, fun c. at(c, fun d. at(a, g))) in g"))
        self.assertEqual(widest_matching(inner, inner), tuple((node, node) for node in range(len(inner))))

    def test_nodes_of_one_scope_never_match(self):
        """The functions that stand in one scope; nodes that have one scope can match."""
        long_scopes = 0
        for graph, _ in pairs_of_graphs():
            pairs = widest_matching(graph, graph)
            for scope in naive_scopes(graph.nodes):
                long_scopes += len(scope) > 1
                self.assertEqual([pair for pair in pairs if pair[0] in scope and pair[1] in scope], [(one, one) for one in sorted(scope)])
        self.assertGreater(long_scopes, 50)
        twice = graph_of(read("fun a. pair(f(a), f(a))"))
        self.assertIn((2, 4), widest_matching(twice, twice))


class WhatIsAMatching(Case):

    def check(self, graph, other, value):
        wanted = naive_is_matching(graph.nodes, other.nodes, value)
        self.assertIs(is_matching(graph, other, value), wanted, shown(value))
        return wanted

    def test_matchings_with_a_change(self):
        rng = random.Random(73)
        results = []
        for graph, other in pairs_of_graphs():
            if not are_alike(graph, other) or len(graph) * len(other) > 400:
                continue
            for pairs in {matching(graph, other), widest_matching(graph, other)}:
                for at in rng.sample(range(len(pairs)), min(6, len(pairs))):
                    one, two = pairs[at]
                    strange = (rng.randrange(len(graph)), rng.randrange(len(other)))
                    for value in (
                        pairs[:at] + pairs[at + 1:],
                        tuple(sorted({*pairs, strange})),
                        tuple(sorted({*pairs[:at], strange, *pairs[at + 1:]})),
                        pairs[:at] + ((one, two),) + pairs[at:],
                        pairs[:at] + ((len(graph), two),) + pairs[at + 1:],
                        pairs[:at] + ((one, len(other)),) + pairs[at + 1:],
                        pairs + ((len(graph), len(other)),),
                        pairs[:at] + ((one, two, 0),) + pairs[at + 1:],
                        pairs[:at] + ([one, two],) + pairs[at + 1:],
                        pairs[:at] + ((-1, two),) + pairs[at + 1:],
                        pairs[at:] + pairs[:at],
                        pairs[::-1],
                    ):
                        results.append(self.check(graph, other, value))
        self.assertGreater(results.count(True), 50)
        self.assertGreater(results.count(False), 500)

    def test_each_pair_that_is_needed(self):
        for graph, other in ((graph_of(ROLL), graph_of(LONG)), (graph_of(CROSS), graph_of(CROSS)), (Graph.of(ring(4)), Graph.of(ring(6)))):
            pairs = matching(graph, other)
            for at in range(len(pairs)):
                self.assertIs(is_matching(graph, other, pairs[:at] + pairs[at + 1:]), False)

    def test_any_value(self):
        graph = graph_of(read("fun a. f(a)"))
        pairs = ((0, 0), (1, 1), (2, 2))
        self.assertIs(is_matching(graph, graph, pairs), True)
        for value in odd_values() + [list(pairs), {(0, 0): True}, ((False, 0), (1, 1), (2, 2)), ((0, 0), (True, True), (2, 2))]:
            self.check(graph, graph, value)
        for value in exchanged(pairs, odd_values()):
            self.check(graph, graph, value)

    def test_one_node(self):
        one = Graph(K)
        self.assertEqual(widest_matching(one, one), ((0, 0),))
        self.assertIs(is_matching(one, one, ()), False)
        self.assertIs(is_matching(one, one, ((0, 0),)), True)
        self.assertIsNone(widest_matching(one, Graph(("word", "k", (0,)))))
        self.assertIs(are_alike(one, Graph(("word", "m", ()))), False)


class Large(Case):

    def test_rings(self):
        for sizes, odds in (((100, 99), ((), ())), ((97, 100), ((), ())), ((100, 100), ((99,), (99,))), ((100, 50), ((0, 50), (0,))),
                            ((100, 99), ((99,), (98,))), ((100, 100), ((99,), (98,)))):
            graph, other = [Graph.of(ring(many, odd)) for many, odd in zip(sizes, odds)]
            alike = sizes != (100, 99) and odds[0][-1:] == odds[1][-1:] or odds == ((), ()) or odds == ((0, 50), (0,))
            self.assertIs(are_alike(graph, other), alike)
            if not alike:
                self.assertIsNone(widest_matching(graph, other))
                continue
            self.assertEqual(matching(graph, other), naive_met(graph.nodes, other.nodes))
            wide = widest_matching(graph, other)
            self.assertIs(is_matching(graph, other, wide), True)
            self.assertIs(is_matching(graph, other, wide[:-1]), False)
            marked = [[node for node, one in enumerate(nodes) if one[1] == "g"] for nodes in (graph.nodes, other.nodes)]
            self.assertTrue(all((one in marked[0]) == (two in marked[1]) for one, two in wide))

    def test_rows_of_functions(self):
        """Functions in one another, and below them words for all variables."""
        many = 33
        nodes = [("fun", at + 1) for at in range(many)]
        nodes += [("word", "at", (2 * many + at, many + at + 1 if at + 1 < many else at)) for at in range(many)]
        nodes += [("var", at) for at in range(many)]
        rng = random.Random(74)
        graph = Graph.of(tuple(nodes))
        self.assertEqual(len(graph), 99)
        self.assertEqual(Graph.of(mixed(rng, tuple(nodes))), graph)
        for at in range(many - 1):
            other = list(nodes)
            other[many + at], other[many + at + 1] = [
                ("word", "at", (one, two)) for (_, _, (_, two)), (_, _, (one, _)) in
                ((nodes[many + at], nodes[many + at + 1]), (nodes[many + at + 1], nodes[many + at]))]
            self.assertIs(are_alike(graph, Graph.of(tuple(other))), False)
        self.assertEqual(widest_matching(graph, graph), tuple((node, node) for node in range(99)))


class Errors(Case):

    def test_errors(self):
        graphs = ([Graph(K)], wrong_graphs())
        for call in (are_alike, matching, widest_matching):
            check_errors(self, call, graphs, graphs)
        for value in (((0, 0),), (), None, ((1, 1),)):
            check_errors(self, is_matching, graphs, graphs, ([value], []))

    def test_everything_stands_in_its_module(self):
        for name in "are_alike matching widest_matching is_matching".split():
            self.assertEqual(getattr(matchings, name).__module__, "sharedlets.alike.matchings")


class Examples(Case):

    def test_examples_of_the_document(self):
        rolled, long = graph_of(ROLL), graph_of(LONG)
        self.assertEqual(
            [widest_matching(rolled, long), is_matching(rolled, long, ((0, 0), (1, 1))), are_alike(graph_of(NEST), graph_of(CROSS))],
            [((0, 0), (0, 2), (1, 1), (1, 3)), False, False])
        two = graph_of(read("pair(f(), f())"))
        self.assertEqual(
            [is_matching(two, two, ((0, 0), (1, 1), (2, 2))), widest_matching(two, two)],
            [True, ((0, 0), (1, 1), (1, 2), (2, 1), (2, 2))])

    def test_leads_to_the_children_in_order(self):
        one, two = graph_of(read("pair(f(), g())")), graph_of(read("pair(g(), f())"))
        self.assertIs(are_alike(one, two), False)
        self.assertEqual(children_of(one[0]), (1, 2))


if __name__ == "__main__":
    unittest.main()
