"""Tests of maps, divisions, quotients, products and common quotients: [0.16], [10.1], [10.2], [10.3]."""

import itertools
import random
import unittest

from sharedlets.alike.matchings import are_alike, is_matching
from sharedlets.errors import InvalidGraph, InvalidOperation, TooMany
from sharedlets.graphs.graphs import Graph
from sharedlets.graphs.made import graph_of
from sharedlets.least import maps
from sharedlets.least.least import classes, joinable, joined, least
from sharedlets.least.maps import common, is_map, map_onto, product, quotient, quotients
from sharedlets.terms.texts import read
from tests.helper import (
    APART, CROSS, LONG, NEST, ROLL, TEXTS, Case, alike_nodes, check_errors, children_of, doubled, exchanged, first_of,
    graph_pairs, naive_graph, naive_is_matching, naive_met, naive_numbered, naive_quotient, odd_values, ring, shown, wrong_graphs,
)

K = ("word", "k", ())


def naive_is_map(nodes, others, value):
    """Whether the value is a map, by the words of [0.16]."""
    if not isinstance(value, tuple) or len(value) != len(nodes) or not all(type(one) is int for one in value):
        return False
    return set(value) == set(range(len(others))) and naive_is_matching(nodes, others, tuple(enumerate(value)))


def divisions(many):
    """All ways to divide so many numbers, each one as an ascending tuple of ascending tuples."""
    rows = [()]
    for number in range(many):
        rows = [row[:at] + ((row[at] if at < len(row) else ()) + (number,),) + row[at + 1:]
                for row in rows for at in range(len(row) + 1)]
    return rows


def pairs_in(division):
    return tuple(sorted((one, two) for part in division for one in part for two in part))


def naive_divisions(nodes):
    """All divisions of a graph, by force."""
    return [one for one in divisions(len(nodes)) if naive_is_matching(nodes, nodes, pairs_in(one))]


def naive_quotients(nodes):
    made = [naive_quotient(nodes, one) for one in naive_divisions(nodes)]
    return sorted(made, key=lambda one: (-len(one), one))


def naive_product(nodes, others):
    pairs = naive_met(nodes, others)
    made = []
    for one, two in pairs:
        node, other = nodes[one], others[two]
        inner = [pairs.index(pair) for pair in zip(children_of(node), children_of(other))]
        if node[0] == "word":
            made.append(("word", node[1], tuple(inner)))
        else:
            made.append(("fun", inner[0]) if node[0] == "fun" else ("var", pairs.index((node[1], other[1]))))
    return naive_numbered(tuple(made))


def small_graphs(seed, most):
    """Graphs with at most so many nodes, each once, many of them with nodes that match."""
    found = {}
    for nodes, others in graph_pairs(seed, 60, 40):
        for one in (nodes, others):
            if len(one) <= most:
                found[one] = True
    rng = random.Random(seed)
    for text in TEXTS + MATCHING:
        for term in (read(text), doubled(rng, read(text)), doubled(rng, doubled(rng, read(text)), "w")):
            nodes = naive_graph(term)
            if len(nodes) <= most:
                found[nodes] = True
    return [Graph.of(nodes) for nodes in found]


MATCHING = (
    "pair(f(), f())", "tri(f(), f(), f())", "let x = f(f(f(f(f(f(x)))))) in x", "let x = f(f(f(f(x)))) in g(x, f(x))",
    "pair(fun a. f(a), fun a. f(a))", "pair(fun a. a, fun a. a)", "fun a. tri(f(a), f(a), f(a))", "fun a. pair(f(f(a)), f(f(a)))",
    "let x = pair(x, pair(x, x)) in x", "let x = pair(pair(x, x), pair(x, x)) in x", "fun a. let x = f(f(g(a, x))) in x",
    "let x = fun a. f(a, fun a. f(a, x)) in x", "let x = fun a. g(fun b. g(x)) in x", "tri(k(), pair(k(), k()), k())",
)


class Maps(Case):

    def test_maps_of_joins(self):
        rng = random.Random(101)
        many = 0
        for graph in small_graphs(102, 25):
            made = graph
            for _ in range(4):
                self.assertTrue(naive_is_map(graph.nodes, made.nodes, map_onto(graph, made)))
                self.assertIs(is_map(graph, made, map_onto(graph, made)), True)
                self.assertIs(map_onto(made, graph) is None, len(made) < len(graph))
                pairs = list(joinable(made))
                if not pairs:
                    break
                many += 1
                made = joined(made, *rng.choice(pairs))
        self.assertGreater(many, 60)

    def test_there_is_one_exactly_if_the_graph_comes_out_by_joins(self):
        graphs = small_graphs(103, 7)
        found = [0, 0]
        for graph in graphs:
            made = naive_quotients(graph.nodes)
            for other in graphs:
                one = map_onto(graph, other)
                found[one is not None] += 1
                self.assertIs(one is not None, other.nodes in made)
                if one is not None:
                    self.assertTrue(naive_is_map(graph.nodes, other.nodes, one))
        self.assertGreater(min(found), 40)

    def test_maps_against_all_tuples(self):
        for one, two in itertools.product(["pair(f(), f())", "let x = f() in pair(x, x)", "fun a. a", "let x = f(f(x)) in x"], repeat=2):
            graph, other = graph_of(read(one)), graph_of(read(two))
            right = [value for value in itertools.product(range(len(other)), repeat=len(graph))
                     if naive_is_map(graph.nodes, other.nodes, value)]
            self.assertLessEqual(len(right), 1)
            self.assertEqual(map_onto(graph, other), right[0] if right else None)
            for value in itertools.product(range(-1, len(other) + 1), repeat=len(graph)):
                self.assertIs(is_map(graph, other, value), value in right)

    def test_any_value(self):
        graph, other = graph_of(LONG), graph_of(ROLL)
        value = (0, 1, 0, 1)
        self.assertIs(is_map(graph, other, value), True)
        for one in odd_values() + list(exchanged(value, odd_values())) + [(0, True, 0, 1), (False, 1, 0, 1), [0, 1, 0, 1]]:
            self.assertIs(is_map(graph, other, one), naive_is_map(graph.nodes, other.nodes, one), shown(one))
            self.assertIs(is_map(other, graph, one), False)

    def test_named_terms(self):
        named = [graph_of(term) for term in (ROLL, LONG, NEST, CROSS, APART)]
        for one, two in itertools.product(named, repeat=2):
            wanted = one == two or (one, two) == (named[1], named[0])
            self.assertIs(map_onto(one, two) is not None, wanted)
        self.assertEqual(map_onto(named[3], named[3]), (0, 1, 2, 3, 4))


class Quotients(Case):

    def test_against_all_divisions(self):
        sizes = []
        for graph in small_graphs(104, 7):
            found = list(quotients(graph))
            wanted = naive_quotients(graph.nodes)
            self.assertEqual([one.nodes for one in found], wanted)
            self.assertEqual(len(set(wanted)), len(wanted))
            self.assertEqual([found[0], found[-1]], [graph, least(graph)])
            sizes.append(len(found))
        self.assertGreater(sum(size > 2 for size in sizes), 15)

    def test_larger_graphs(self):
        """Each quotient once, in order; from each one single joins lead to further ones, and to each one but the first."""
        for graph in small_graphs(105, 12):
            found = list(quotients(graph))
            self.assertEqual([one.nodes for one in found], sorted({one.nodes for one in found}, key=lambda one: (-len(one), one)))
            reached, waiting = {}, [graph]
            while waiting:
                one = waiting.pop()
                if one.nodes not in reached:
                    reached[one.nodes] = True
                    waiting += [joined(one, *pair) for pair in joinable(one)]
            self.assertEqual({one.nodes for one in found}, set(reached))

    def test_many_quotients(self):
        nodes = tuple(("word", "p", tuple(3 * at + step for step in (1, 2, 3))) for at in range(3)) + (("word", "p", (10, 10, 10)),)
        leaves = (("word", "p", (1, 2, 3)), ("word", "p", (4, 5, 6)), ("word", "p", (7, 8, 9)), ("word", "p", (10, 11, 11))) + (K,) * 8
        graph = Graph.of(leaves)
        found = list(quotients(graph))
        self.assertEqual(len(graph), 12)
        self.assertEqual(len({one.nodes for one in found}), len(found))
        # The words with leaves below can be joined, too, once their leaves are; each division of the leaves is there.
        self.assertGreater(len(found), 4140)
        self.assertEqual(len(Graph.of(nodes + (K,) * 7)), 11)
        for many, wanted in ((12, 6), (11, 2), (8, 4), (1, 1)):
            self.assertEqual(len(list(quotients(Graph.of(ring(many))))), wanted)

    def test_quotient_of_each_division(self):
        for graph in small_graphs(106, 6):
            right = naive_divisions(graph.nodes)
            for division in divisions(len(graph)):
                if division in right:
                    made = quotient(graph, division)
                    self.assertEqual(made.nodes, naive_quotient(graph.nodes, division))
                    self.assertIs(is_matching(graph, graph, pairs_in(division)), True)
                    number = {node: at for at, part in enumerate(division) for node in part}
                    onto = map_onto(graph, made)
                    self.assertEqual(len({(number[node], onto[node]) for node in range(len(graph))}), len(division))
                else:
                    self.fails(InvalidOperation, quotient, graph, division)
            self.assertEqual(quotient(graph, classes(graph)), least(graph))
            self.assertEqual(quotient(graph, tuple((node,) for node in range(len(graph)))), graph)

    def test_what_is_no_division(self):
        long = graph_of(LONG)
        division = ((0, 2), (1, 3))
        self.assertEqual(quotient(long, division), graph_of(ROLL))
        for value in odd_values() + [
            ((1, 3), (0, 2)), ((2, 0), (1, 3)), ((0, 2), (3, 1)), ((0, 2), (1,), (3,)), ((0,), (1, 3), (2,)), ((0, 1), (2, 3)),
            ((0, 2), (1, 3), ()), ((), (0, 2), (1, 3)), ((0, 2), (1, 3), (4,)), ((0, 2), (1, 3), (1, 3)), ((0, 0, 2), (1, 3)),
            ((0, 2),), ((0, 2, 3), (1, 3)), ((-1, 0, 2), (1, 3)), ((False, 2), (1, 3)), ((0, 2), (True, 3)), [(0, 2), (1, 3)],
            ([0, 2], (1, 3)), {(0, 2): True, (1, 3): True}, ((0, 1, 2, 3),),
        ]:
            self.fails(InvalidOperation, quotient, long, value)
        for value in exchanged(division, [None, True, 0, 1, 2, 3, 4, -1, (), (0,), (1, 3), [0, 2], "", {}, long]):
            if value != division or repr(value) != repr(division):
                self.fails(InvalidOperation, quotient, long, value)

    def test_a_division_leaves_nothing_out_that_must_be_joined(self):
        twice = graph_of(read("pair(fun a. k(a), fun b. k(b))"))
        for value in (((0,), (1, 4), (2,), (3,), (5,), (6,)), ((0,), (1, 4), (2, 5), (3,), (6,)), ((0,), (1,), (2, 5), (3, 6), (4,)),
                      ((0,), (1,), (2,), (3, 6), (4,), (5,))):
            self.fails(InvalidOperation, quotient, twice, value)
        self.assertEqual(len(quotient(twice, ((0,), (1, 4), (2, 5), (3, 6)))), 4)

    def test_limit(self):
        self.assertEqual(len(list(quotients(Graph.of(ring(12, (11,)))))), 1)
        for nodes in (ring(13), ring(13, (12,)), ring(100)):
            self.fails((TooMany, ("limit", 12)), first_of(quotients), Graph.of(nodes))
        self.assertEqual(len(quotient(Graph.of(ring(100)), (tuple(range(0, 100, 2)), tuple(range(1, 100, 2))))), 2)

    def test_errors_come_when_the_first_result_is_asked_for(self):
        for value, wanted in ((None, InvalidGraph), (Graph.of(ring(13)), (TooMany, ("limit", 12)))):
            waiting = quotients(value)
            self.fails(wanted, next, waiting)


class Products(Case):

    def alike_graphs(self, seed, many=40, most=30):
        for nodes, others in alike_nodes(random.Random(seed), many, most):
            yield Graph.of(nodes), Graph.of(others)
        for one, two in ((2, 3), (4, 6), (5, 5), (1, 7), (9, 10), (8, 12)):
            yield Graph.of(ring(one)), Graph.of(ring(two))
        for graph in small_graphs(seed, 9):
            found = list(quotients(graph))[:12]
            if len(found) > 3:
                yield from itertools.combinations(found, 2)

    def test_products(self):
        bigger = 0
        for graph, other in self.alike_graphs(107):
            pairs = naive_met(graph.nodes, other.nodes)
            if len(pairs) > 100:
                self.fails((TooMany, ("limit", 100)), product, graph, other)
                continue
            made = product(graph, other)
            self.assertEqual(made.nodes, naive_product(graph.nodes, other.nodes))
            self.assertEqual(made, product(other, graph))
            for one in (graph, other):
                self.assertTrue(naive_is_map(made.nodes, one.nodes, map_onto(made, one)))
                self.assertEqual(product(one, one), one)
                self.assertEqual(product(made, one), made)
            bigger += len(made) > max(len(graph), len(other))
        self.assertGreater(bigger, 10)

    def test_common_quotients(self):
        smaller = 0
        for graph, other in self.alike_graphs(108):
            made = common(graph, other)
            self.assertEqual(made, common(other, graph))
            for one in (graph, other):
                self.assertTrue(naive_is_map(one.nodes, made.nodes, map_onto(one, made)))
                self.assertEqual(common(one, one), one)
                self.assertEqual(common(one, made), made)
                self.assertEqual(common(one, least(one)), least(one))
            smaller += len(made) < min(len(graph), len(other))
        self.assertGreater(smaller, 10)

    def test_each_graph_onto_which_both_are_mapped(self):
        many = 0
        for graph, other in self.alike_graphs(109):
            if max(len(graph), len(other)) > 10:
                continue
            both = {one.nodes for one in quotients(graph)} & {one.nodes for one in quotients(other)}
            made = common(graph, other)
            self.assertIn(made.nodes, both)
            self.assertEqual(both, {one.nodes for one in quotients(made)})
            many += len(both) > 1
        self.assertGreater(many, 10)

    def test_each_graph_that_is_mapped_onto_both(self):
        rng = random.Random(110)
        graphs = small_graphs(111, 9)
        many = 0
        for graph in graphs:
            found = list(quotients(graph))
            for _ in range(5):
                one, two = rng.choice(found), rng.choice(found)
                made = product(one, two)
                self.assertIsNotNone(map_onto(graph, made))
                self.assertLessEqual(len(made), len(graph))
                many += made not in (one, two)
        self.assertGreater(many, 5)

    def test_laws(self):
        rng = random.Random(112)
        rows = [[Graph.of(ring(many)) for many in (1, 2, 3, 4, 5, 6)]]
        rows += [list(quotients(graph)) for graph in small_graphs(113, 8)]
        for row in rows:
            for _ in range(6):
                one, two, three = [rng.choice(row) for _ in range(3)]
                self.assertEqual(product(product(one, two), three), product(one, product(two, three)))
                self.assertEqual(common(common(one, two), three), common(one, common(two, three)))
                self.assertEqual(product(one, common(one, two)), one)
                self.assertEqual(common(one, product(one, two)), one)
                self.assertEqual(product(one, two), product(two, one))
                self.assertEqual(common(one, two), common(two, one))

    def test_rings(self):
        for one, two, both, shared in ((2, 3, 6, 1), (4, 6, 12, 2), (10, 10, 10, 10), (9, 11, 99, 1), (50, 100, 100, 50), (1, 100, 100, 1)):
            self.assertEqual(product(Graph.of(ring(one)), Graph.of(ring(two))), Graph.of(ring(both)))
            self.assertEqual(common(Graph.of(ring(one)), Graph.of(ring(two))), Graph.of(ring(shared)))
        for one, two in ((99, 100), (3, 100), (100, 75), (51, 2)):
            self.fails((TooMany, ("limit", 100)), product, Graph.of(ring(one)), Graph.of(ring(two)))
        self.assertEqual(len(common(Graph.of(ring(99)), Graph.of(ring(100)))), 1)
        row = Graph.of(tuple(("word", "f", (at + 1,)) for at in range(99)) + (K,))
        self.assertEqual([product(row, row), common(row, row), map_onto(row, row)], [row, row, tuple(range(100))])

    def test_functions(self):
        one = graph_of(read("let x = fun a. f(a, fun a. f(a, x)) in x"))
        two = graph_of(read("let x = fun a. f(a, fun a. f(a, fun a. f(a, x))) in x"))
        self.assertEqual([len(one), len(two), len(product(one, two)), len(common(one, two))], [6, 9, 18, 3])

    def test_graphs_that_are_not_alike(self):
        named = [graph_of(term) for term in (ROLL, NEST, CROSS, APART)] + [Graph.of(ring(100, (99,))), Graph.of(ring(99, (98,)))]
        for one, two in itertools.permutations(named, 2):
            self.fails(InvalidOperation, product, one, two)
            self.fails(InvalidOperation, common, one, two)
            self.assertIsNone(map_onto(one, two))


class Errors(Case):

    def test_errors(self):
        graphs = ([Graph(K), graph_of(CROSS)], wrong_graphs())
        for call in (map_onto, product, common):
            check_errors(self, call, graphs, graphs)
        for value in ((0,), (), None, (1, 1)):
            check_errors(self, is_map, graphs, graphs, ([value], []))
        check_errors(self, quotient, ([Graph(K)], wrong_graphs()), (
            [((0,),)], [(value, InvalidOperation) for value in odd_values() if value != ((0,),)]))
        check_errors(self, first_of(quotients), graphs)

    def test_everything_stands_in_its_module(self):
        for name in "map_onto is_map quotient quotients product common".split():
            self.assertEqual(getattr(maps, name).__module__, "sharedlets.least.maps")


class Examples(Case):

    def test_examples_of_the_document(self):
        two, three = graph_of(read("let x = f(f(x)) in x")), graph_of(read("let x = f(f(f(x))) in x"))
        self.assertEqual(
            [map_onto(graph_of(LONG), graph_of(ROLL)), map_onto(two, three), len(product(two, three)), common(two, three).nodes],
            [(0, 1, 0, 1), None, 6, (('word', 'f', (0,)),)])
        six = product(two, three)
        self.assertEqual(
            [quotient(six, ((0, 2, 4), (1, 3, 5))) == two, [len(one) for one in quotients(six)]], [True, [6, 3, 2, 1]])


if __name__ == "__main__":
    unittest.main()
