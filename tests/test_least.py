"""Tests of least graphs, classes and joins: [0.16], [0.19], [0.20], [9.1], [9.2], [9.3]."""

import random
import unittest

from sharedlets.alike.matchings import are_alike
from sharedlets.errors import InvalidGraph, InvalidNumber, InvalidOperation
from sharedlets.graphs.graphs import Graph
from sharedlets.graphs.made import graph_of
from sharedlets.least import least as least_module
from sharedlets.least.least import classes, is_least, joinable, joined, joined_all, least
from sharedlets.terms.texts import read
from tests.helper import (
    APART, CROSS, LONG, NEST, ROLL, TEXTS, Case, alike_nodes, check_errors, doubled, first_of, graph_pairs, naive_closed,
    naive_graph, naive_matching_pairs, naive_quotient, naive_scopes, odd_values, rich_terms, ring, wrong_graphs, wrong_numbers,
)

K = ("word", "k", ())


def some_graphs(seed=91, most=40):
    """Graphs, many of them with nodes that match."""
    for nodes, others in graph_pairs(seed, 30, 30):
        for one in (nodes, others):
            if len(one) <= most:
                yield Graph.of(one)


def naive_classes(nodes):
    pairs = naive_matching_pairs(nodes, nodes)
    return tuple(sorted({tuple(sorted(two for one, two in pairs if one == node)) for node in range(len(nodes))}))


def row_with_odd_end(many):
    """A row of words whose last one is another one; no two of its nodes match."""
    return tuple(("word", "f", (at + 1,)) for at in range(many - 1)) + (K,)


def pairs_row(many):
    """Words in a row, each one twice, below a root: the two match, and have the same children."""
    nodes = []
    for at in range(many):
        below = (2 * at + 2, 2 * at + 3) if at + 1 < many else ()
        nodes += [("word", "f", below), ("word", "f", below)]
    return (("word", "r", (1, 2)),) + tuple(
        (kind, name, tuple(child + 1 for child in below)) for kind, name, below in nodes)


class Least(Case):

    def test_classes_are_the_nodes_that_match(self):
        many = 0
        for graph in some_graphs():
            wanted = naive_classes(graph.nodes)
            self.assertEqual(classes(graph), wanted)
            self.assertEqual(list(joinable(graph)), sorted(
                (one, two) for part in wanted for one in part for two in part if one < two))
            self.assertIs(is_least(graph), len(wanted) == len(graph))
            many += len(wanted) < len(graph)
        self.assertGreater(many, 40)

    def test_least_is_the_quotient_of_the_classes(self):
        for graph in some_graphs(92):
            found = least(graph)
            self.assertIsInstance(found, Graph)
            self.assertEqual(found.nodes, naive_quotient(graph.nodes, classes(graph)))
            self.assertTrue(are_alike(graph, found))
            self.assertIs(is_least(found), True)
            self.assertEqual(least(found), found)
            self.assertIs(is_least(graph), found == graph)

    def test_alike_graphs_have_one_least_graph(self):
        for nodes, others in graph_pairs(93, 30, 50):
            graph, other = Graph.of(nodes), Graph.of(others)
            self.assertIs(least(graph) == least(other), are_alike(graph, other))

    def test_definitions_that_stand_twice(self):
        rng = random.Random(94)
        for term in [read(text) for text in TEXTS] + rich_terms(rng, 30, 6, 30):
            first = graph_of(term)
            other = doubled(rng, term)
            nodes = naive_graph(other)
            if len(nodes) <= 100:
                self.assertEqual(least(Graph.of(nodes)), least(first))

    def test_nodes_of_one_scope_are_in_different_classes(self):
        for graph in some_graphs(95):
            parts = classes(graph)
            for scope in naive_scopes(graph.nodes):
                for part in parts:
                    self.assertLessEqual(len(set(part) & set(scope)), 1)

    def test_scopes_keep_nodes_apart(self):
        """[0.20]: parts with equal looks, equal open parts, and nodes with equal children, that are not one node."""
        cross = graph_of(CROSS)
        self.assertEqual(classes(cross), ((0,), (1,), (2,), (3,), (4,)))
        inner = graph_of(read("fun a. pair(fun b. pair(a, fun c. pair(b, c)), fun d. fun e. pair(d, e))"))
        self.assertIs(is_least(inner), True)
        # Both words pair with the variables of two functions have one open part; only their scopes differ.
        shared = graph_of(read("pair(fun a. fun b. f(a, b), fun a. g(fun b. f(a, b)))"))
        self.assertIs(is_least(shared), True)
        # The children of the two words are equal, node for node, so the words are one node, for their scopes are equal.
        equal = graph_of(read("fun a. pair(f(a), f(a))"))
        self.assertEqual(classes(equal), ((0,), (1,), (2, 4), (3,)))

    def test_joining_from_below_does_not_lead_to_the_least_graph(self):
        """[0.20]: in a ring no nodes have equal children, and the nodes match all the same."""
        six = Graph.of(ring(6))
        self.assertEqual(len({node for node in six}), 6)
        self.assertEqual(classes(six), ((0, 1, 2, 3, 4, 5),))
        self.assertEqual(least(six).nodes, (("word", "f", (0,)),))


class Joins(Case):

    def test_joined_joins_what_must_be_joined_and_nothing_more(self):
        rng = random.Random(96)
        kinds = [0, 0]
        for graph in some_graphs(97):
            pairs = list(joinable(graph))
            for node, other in rng.sample(pairs, min(6, len(pairs))):
                division = naive_closed(graph.nodes, [(node, other)])
                wanted = naive_quotient(graph.nodes, division)
                kinds[len(wanted) == len(least(graph))] += 1
                for found in (joined(graph, node, other), joined(graph, other, node)):
                    self.assertEqual(found.nodes, wanted)
                self.assertTrue(are_alike(graph, found))
                self.assertLess(len(found), len(graph))
            node = rng.randrange(len(graph))
            self.assertEqual(joined(graph, node, node), graph)
        self.assertGreater(min(kinds), 20)

    def test_joins_in_any_order_end_at_the_least_graph(self):
        rng = random.Random(98)
        rounds = []
        for graph in some_graphs(99):
            wanted = least(graph)
            for _ in range(3):
                made, steps = graph, []
                while pairs := list(joinable(made)):
                    pair = rng.choice(pairs)
                    steps.append(rng.choice((pair, pair[::-1])))
                    made = joined(made, *pair)
                self.assertEqual(made, wanted)
                self.assertEqual(joined_all(graph, tuple(steps)), wanted)
                rounds.append(len(steps))
        self.assertGreater(sum(many > 1 for many in rounds), 50)

    def test_numbers_of_the_graph_at_this_moment(self):
        graph = graph_of(read("tri(pair(f(), f()), f(), g(f()))"))
        self.assertEqual([node[1] for node in graph], ["tri", "pair", "f", "f", "f", "g", "f"])
        once = joined(graph, 2, 3)
        self.assertEqual([node[1] for node in once], ["tri", "pair", "f", "f", "g", "f"])
        self.assertEqual(joined_all(graph, ((2, 3), (3, 5))), joined(once, 3, 5))
        self.assertEqual(joined_all(graph, ((2, 3), (3, 5), (3, 2), (0, 0))), least(graph))
        # Node 6 is there at first, but not behind the first join; node 4 is then another one.
        self.fails((InvalidNumber, ("value", 6)), joined_all, graph, ((2, 3), (6, 2)))
        self.fails(InvalidOperation, joined_all, graph, ((2, 3), (4, 2)))
        self.assertEqual(joined_all(graph, ()), graph)

    def test_children_functions_and_scopes_are_joined_too(self):
        for text, pair, wanted in (
            ("pair(f(g(k())), f(g(k())))", (1, 4), "let x = f(g(k())) in pair(x, x)"),
            ("pair(f(g(k())), f(g(k())))", (3, 6), "let x = k() in pair(f(g(x)), f(g(x)))"),
            ("pair(fun a. f(a), fun a. f(a))", (3, 6), "let x = fun a. f(a) in pair(x, x)"),
            ("pair(fun a. f(a), fun a. f(a))", (2, 5), "let x = fun a. f(a) in pair(x, x)"),
            ("pair(fun a. fun b. f(a), fun a. fun b. f(a))", (4, 8), "let x = fun a. fun b. f(a) in pair(x, x)"),
            ("pair(fun a. fun b. f(g(a), b), fun a. fun b. f(g(a), b))", (4, 10),
             "let x = fun a. fun b. f(g(a), b) in pair(x, x)"),
            ("let x = f(f(f(f(x)))) in x", (0, 2), "let x = f(f(x)) in x"),
            ("let x = f(f(f(f(x)))) in x", (0, 1), "let x = f(x) in x"),
            ("let x = f(f(f(f(x)))) in x", (3, 1), "let x = f(f(x)) in x"),
        ):
            graph = graph_of(read(text))
            self.assertEqual(joined(graph, *pair), graph_of(read(wanted)), text)

    def test_a_scope_is_joined_that_the_node_does_not_need(self):
        """The word needs the inner function alone; the outer one stands in its scope all the same."""
        graph = graph_of(read("pair(fun a. fun b. f(b, fun c. g(a, b, c)), fun a. fun b. f(b, fun c. g(a, b, c)))"))
        functions = [number for number in graph.functions if graph.scope(number) == ()]
        variables = [number for number, node in enumerate(graph) if node[0] == "var" and len(graph.scope(number)) == 2]
        self.assertEqual([len(functions), len(variables)], [2, 2])
        self.assertEqual(graph.needs(variables[0]), (functions[0] + 1,))
        self.assertEqual(joined(graph, *variables), least(graph))


class Large(Case):

    def test_rings_and_rows(self):
        for many, odd, wanted in ((100, (), 1), (100, (0, 50), 50), (100, (99,), 100), (99, range(0, 99, 3), 3), (100, (3, 28, 53, 78), 25)):
            graph = Graph.of(ring(many, odd))
            self.assertEqual(len(least(graph)), wanted)
            self.assertEqual([len(part) for part in classes(graph)], [many // wanted] * wanted)
            self.assertEqual(len(list(joinable(graph))), wanted * (many // wanted) * (many // wanted - 1) // 2)
            self.assertIs(is_least(graph), wanted == many)
        graph = Graph.of(ring(100))
        self.assertEqual(joined(graph, 0, 50), Graph.of(ring(50)))
        self.assertEqual(joined(graph, 99, 29), Graph.of(ring(10)))
        self.assertEqual(joined_all(graph, ((0, 50), (0, 25), (24, 19))), Graph.of(ring(5)))
        row = Graph.of(row_with_odd_end(100))
        self.assertEqual([least(row), is_least(row), list(joinable(row))], [row, True, []])
        twice = Graph.of(pairs_row(49))
        self.assertEqual([len(twice), len(least(twice))], [99, 50])
        self.assertEqual([len(joined(twice, *pair)) for pair in joinable(twice)], [98] * 49)
        made = twice
        while pairs := list(joinable(made)):
            made = joined(made, *pairs[-1])
        self.assertEqual(made, least(twice))

    def test_functions_in_one_another(self):
        text = " ".join(f"fun x{chr(97 + at)}." for at in range(24))
        term = f"let x = {text} let y = f(xa, y, xx) in y in pair(x, x)"
        graph = graph_of(read(term.replace("pair(x, x)", f"pair(x, {text} let y = f(xa, f(xa, y, xx), xx) in y)")))
        self.assertEqual(least(graph), graph_of(read(term)))


class Errors(Case):

    def test_errors(self):
        graphs = ([Graph(K)], wrong_graphs())
        for call in (classes, least, is_least, first_of(joinable)):
            check_errors(self, call, graphs)
        check_errors(self, joined, graphs, ([0], wrong_numbers(1)), ([0], wrong_numbers(1)))
        wrong = [(value, InvalidOperation) for value in odd_values() if value not in ((), ((),))]
        wrong = [(value, wanted) for value, wanted in wrong if not (isinstance(value, tuple) and value and all(
            isinstance(pair, tuple) and len(pair) == 2 for pair in value))]
        check_errors(self, joined_all, graphs, ([()], wrong + [(((),), InvalidOperation), ([(0, 0)], InvalidOperation)]))

    def test_pairs_are_checked_when_they_are_reached(self):
        graph = graph_of(read("pair(f(), f())"))
        for pairs, wanted in (
            (((1, 3),), (InvalidNumber, ("value", 3))),
            (((True, 3),), (InvalidNumber, ("value", True))),
            (((1, None),), (InvalidNumber, ("value", None))),
            (((0, 1), (9, 9)), InvalidOperation),
            (((1, 2), (9, 9)), (InvalidNumber, ("value", 9))),
            (((1, 2), (2, 2)), (InvalidNumber, ("value", 2))),
            (((1, 2), (0, 1), (7, 7)), InvalidOperation),
            (((9, 9), (1, 2, 3)), InvalidOperation),
            (((9, 9), [1, 2]), InvalidOperation),
            ((("a", 3), None), InvalidOperation),
            ([(1, 2)], InvalidOperation),
            ({(1, 2): True}, InvalidOperation),
            ("", InvalidOperation),
        ):
            self.fails(wanted, joined_all, graph, pairs)
        self.fails(InvalidGraph, joined_all, None, None)
        self.assertEqual(len(graph), 3)

    def test_nodes_that_do_not_match(self):
        cross = graph_of(CROSS)
        for node in range(5):
            for other in range(5):
                if node != other:
                    self.fails(InvalidOperation, joined, cross, node, other)

    def test_a_generator_raises_when_the_first_result_is_asked_for(self):
        waiting = joinable(None)
        self.fails(InvalidGraph, next, waiting)

    def test_everything_stands_in_its_module(self):
        for name in "classes least is_least joinable joined joined_all".split():
            self.assertEqual(getattr(least_module, name).__module__, "sharedlets.least.least")


class Examples(Case):

    def test_examples_of_the_document(self):
        long = graph_of(LONG)
        self.assertEqual(
            [long.nodes, classes(long), list(joinable(long))],
            [(('word', 'f', (1,)), ('word', 'g', (2,)), ('word', 'f', (3,)), ('word', 'g', (0,))), ((0, 2), (1, 3)), [(0, 2), (1, 3)]])
        self.assertEqual(
            [joined(long, 1, 3).nodes, least(long) == graph_of(ROLL), is_least(long), is_least(graph_of(CROSS))],
            [(('word', 'f', (1,)), ('word', 'g', (0,))), True, False, True])
        twice = graph_of(read("pair(fun a. k(a), fun b. k(b))"))
        self.assertEqual(
            [classes(twice), joined(twice, 3, 6) == joined_all(twice, ((1, 4), (0, 0))), len(joined(twice, 2, 5))],
            [((0,), (1, 4), (2, 5), (3, 6)), True, 4])

    def test_named_terms(self):
        self.assertEqual([is_least(graph_of(term)) for term in (ROLL, LONG, NEST, CROSS, APART)], [True, False, True, True, True])

    def test_alike_pairs_are_there(self):
        """The examples of the tests have graphs of different sizes with one unfolding."""
        sizes = [(len(one), len(two)) for one, two in alike_nodes(random.Random(90), 60)]
        self.assertGreater(sum(one != two for one, two in sizes), 12)


if __name__ == "__main__":
    unittest.main()
