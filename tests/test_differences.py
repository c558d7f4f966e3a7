"""Tests of first differences and papers: [0.19], [0.20], [8.1], [8.2]."""

import random
import time
import unittest

from sharedlets.alike import differences
from sharedlets.alike.differences import alike_paper, first_difference, is_alike_paper, is_alike_up_to
from sharedlets.alike.matchings import are_alike, matching, widest_matching
from sharedlets.errors import InvalidGraph
from sharedlets.graphs.graphs import Graph
from sharedlets.graphs.made import graph_of
from sharedlets.terms.texts import read
from tests.helper import (
    APART, CROSS, LONG, NEST, ROLL, Case, check_errors, exchanged, first_of, graph_pairs, naive_difference, naive_look,
    naive_are_nodes, naive_graph, naive_matching_pairs, naive_way, odd_values, rich_terms, ring, shown, wrong_graphs, wrong_numbers,
)

K = ("word", "k", ())
FAR = 10 ** 30


def pairs_of_graphs(seed=81):
    for nodes, others in graph_pairs(seed, 25, 90):
        yield Graph.of(nodes), Graph.of(others)


def looks_at(graph, other, address):
    """The looks at a plain address in both, or None if it leads out of a tree."""
    ways = [naive_way(one.nodes, address) for one in (graph, other)]
    return None if None in ways else tuple(naive_look(one.nodes, way) for one, way in zip((graph, other), ways))


def rooted_ring(many, odd):
    """A function, and below it a ring of words; the odd ones have its variable, the other ones the word k."""
    nodes = [("fun", 1)]
    nodes += [("word", "f", ((at + 1) % many + 1, many + 1 if at in odd else many + 2)) for at in range(many)]
    return tuple(nodes) + (("var", 0), K)


def far_variables(many, first):
    """Two functions, a row of words, and at its end the variable of the first or of the second function."""
    row = [("word", "f", (at + 3,)) for at in range(many)]
    return (("fun", 1), ("fun", 2), *row, ("var", 0 if first else 1))


class FirstDifferences(Case):

    def test_against_both_unfoldings(self):
        lengths = []
        for graph, other in pairs_of_graphs():
            found = first_difference(graph, other)
            self.assertIs(found is None, are_alike(graph, other))
            if found is None:
                continue
            address, look, other_look = found
            self.assertLess(len(address), 2 * len(graph) * len(other))
            self.assertEqual(looks_at(graph, other, address), (look, other_look))
            self.assertNotEqual(look, other_look)
            wanted = naive_difference(graph.nodes, other.nodes, 3000)
            if wanted is not None:
                self.assertEqual(found, wanted)
                lengths.append(len(address))
            for length in range(len(address)):
                one, two = looks_at(graph, other, address[:length])
                self.assertEqual(one, two)
            self.assertEqual(first_difference(other, graph), (address, other_look, look))
        self.assertGreater(len(lengths), 90)
        self.assertGreater(sum(length > 4 for length in lengths), 10)

    def test_differences_of_variables(self):
        rng = random.Random(82)
        found = []
        for term in rich_terms(rng, 150):
            nodes = naive_graph(term)
            variables = [at for at, node in enumerate(nodes) if node[0] == "var"]
            words = [at for at, node in enumerate(nodes) if node[0] == "word" and set(node[2]) & set(variables)]
            if not words:
                continue
            made, at = list(nodes), rng.choice(words)
            children = tuple(rng.choice(variables) if child in variables else child for child in nodes[at][2])
            made[at] = ("word", nodes[at][1], children)
            if not naive_are_nodes(tuple(made)):
                continue
            graph, other = Graph.of(nodes), Graph.of(tuple(made))
            difference = first_difference(graph, other)
            wanted = naive_difference(graph.nodes, other.nodes, 20000)
            if difference is None or wanted is not None:
                self.assertEqual(difference, wanted)
                found.append(difference is not None and difference[1][0] == difference[2][0] == "var")
        self.assertGreater(found.count(True), 15)

    def test_one_difference(self):
        for one, two, wanted in (
            ("k()", "m()", ((), ("word", "k", 0), ("word", "m", 0))),
            ("k()", "fun a. a", ((), ("word", "k", 0), ("fun",))),
            ("fun a. a", "fun a. k()", ((0,), ("var", 1), ("word", "k", 0))),
            ("f(k())", "f(k(), k())", ((), ("word", "f", 1), ("word", "f", 2))),
            ("fun a. fun b. a", "fun a. fun b. b", ((0, 0), ("var", 2), ("var", 1))),
            ("f(g(k()), m())", "f(g(m()), k())", ((1,), ("word", "m", 0), ("word", "k", 0))),
            ("let x = f(x) in x", "let x = f(f(g(x))) in x", ((0, 0), ("word", "f", 1), ("word", "g", 1))),
            ("fun a. let g = fun b. at(a, g) in g", "fun a. let g = fun b. at(b, g) in g", ((0, 0, 0), ("var", 3), ("var", 2))),
        ):
            self.assertEqual(first_difference(graph_of(read(one)), graph_of(read(two))), wanted)

    def test_far_variables(self):
        one, two = [Graph.of(far_variables(97, first)) for first in (True, False)]
        self.assertEqual(first_difference(one, two), ((0,) * 99, ("var", 99), ("var", 98)))
        self.assertIs(is_alike_up_to(one, two, 98), True)
        self.assertIs(is_alike_up_to(one, two, 99), False)
        self.assertIsNone(first_difference(one, one))

    def test_far_copies(self):
        """A function is gone through again in the one graph only, far above the variable."""
        row = ["x" + letters for letters in "abcdefghijklmnopqrstuvwxyz"]
        middle = "; ".join(f"{name} = f({other})" for name, other in zip(row, row[1:] + ["end"]))
        one = graph_of(read(f"let g = fun a. let end = pair(a, g, fun c. xa); {middle} in xa in g"))
        two = graph_of(read(f"let g = fun a. let end = pair(a, g, g); {middle} in xa in g"))
        found = first_difference(one, two)
        self.assertEqual(found, naive_difference(one.nodes, two.nodes, 10 ** 5))
        self.assertEqual(found[1:], (("var", 56), ("var", 28)))

    def test_rings(self):
        for many, others in ((100, 99), (97, 100), (60, 40)):
            self.assertIsNone(first_difference(Graph.of(ring(many)), Graph.of(ring(others))))
            self.assertEqual(first_difference(Graph.of(ring(many, (many - 1,))), Graph.of(ring(others, (others - 1,))))[0],
                             (0,) * (min(many, others) - 1))
        self.assertIsNone(first_difference(Graph.of(ring(100, (0, 50))), Graph.of(ring(50, (0,)))))

    def test_rings_with_variables(self):
        for many, others in ((97, 96), (97, 95), (90, 60)):
            for odd, other_odd in ((range(many), range(others)), ((many - 1,), (others - 1,)), ((0,), (0,))):
                graph, other = Graph.of(rooted_ring(many, odd)), Graph.of(rooted_ring(others, other_odd))
                start = time.monotonic()
                found = first_difference(graph, other)
                self.assertLess(time.monotonic() - start, 10)
                if len(odd) > 1:
                    self.assertIsNone(found)
                else:
                    self.assertEqual(found, naive_difference(graph.nodes, other.nodes, 10 ** 4))

    def test_other_copies_that_differ(self):
        """The words f are met with equal copies, then with other copies of the near function, then of the far one."""
        one = graph_of(read("let a = fun x. let b = fun y. f(x, g(g(g(y))), b) in w(b, a) in a"))
        two = graph_of(read("fun x. let b = fun y. let m = f(x, g(g(g(y))), fun z. m) in m; p = w(b, fun z. p) in p"))
        self.assertEqual(first_difference(one, two), ((0, 1, 0, 0, 0, 0), ("var", 4), ("var", 6)))
        self.assertEqual(first_difference(one, two), naive_difference(one.nodes, two.nodes, 10 ** 4))

    def test_many_copies_that_differ(self):
        """Each level goes through a function of its own again, or does not: the copies differ in very many ways."""
        one, two = [], []
        levels = 9
        for at in range(levels):
            top, other_top = 6 * at, 5 * at
            below, other_below = 6 * (at + 1), 5 * (at + 1)
            one += [("fun", top + 1), ("word", "u", (top + 2, top + 4)), ("fun", top + 3), ("word", "w", (below, below)),
                    ("fun", top + 5), ("word", "w", (below, below))]
            two += [("fun", other_top + 1), ("word", "u", (other_top + 2, other_top)), ("fun", other_top + 3),
                    ("word", "w", (other_below, other_below)), ("fun", 0)]
        graphs = []
        for nodes, size in ((one, 6), (two, 5)):
            first = len(nodes)
            nodes += [("word", "at", (first + levels + at, first + at + 1)) for at in range(levels - 1)]
            nodes += [("word", "at", (first + 2 * levels - 1,))]
            nodes += [("var", size * at) for at in range(levels)]
            graphs.append(Graph.of(tuple(nodes)))
        found = first_difference(*graphs)
        self.assertEqual(found, naive_difference(*[graph.nodes for graph in graphs], 10 ** 5))
        self.assertIsNotNone(found)

    def test_long_differences_stay_below_the_limit(self):
        rng = random.Random(83)
        lengths = []
        for _ in range(300):
            many, others = rng.randrange(2, 30), rng.randrange(2, 30)
            odd = [at for at in range(many) if rng.random() < 0.9]
            other_odd = [at for at in range(others) if rng.random() < 0.9]
            graph, other = Graph.of(rooted_ring(many, odd)), Graph.of(rooted_ring(others, other_odd))
            found = first_difference(graph, other)
            self.assertEqual(found, naive_difference(graph.nodes, other.nodes, 4 * many * others))
            if found is not None:
                lengths.append(len(found[0]) < 2 * len(graph) * len(other))
        self.assertTrue(all(lengths))
        self.assertGreater(len(lengths), 50)


class UpToADepth(Case):

    def test_depths(self):
        for graph, other in pairs_of_graphs(84):
            found = first_difference(graph, other)
            most = 20 if found is None else len(found[0])
            for depth in (0, 1, 2, most - 1, most, most + 1, 10 ** 40 - 1):
                if depth >= 0:
                    self.assertIs(is_alike_up_to(graph, other, depth), found is None or len(found[0]) > depth)

    def test_wrong_depths(self):
        graphs = ([graph_of(ROLL), graph_of(LONG)], wrong_graphs())
        check_errors(self, is_alike_up_to, graphs, graphs, ([0, 10 ** 39], wrong_numbers()))


class Papers(Case):

    def naive_is_paper(self, graph, other, value):
        if not (isinstance(value, tuple) and len(value) == 2):
            return False
        if isinstance(value[0], str) and value[0] == "unlike":
            looks = looks_at(graph, other, value[1]) if isinstance(value[1], tuple) and all(
                type(step) is int and 0 <= step < 3 for step in value[1]) else None
            return looks is not None and looks[0] != looks[1]
        return False

    def test_papers_that_are_made(self):
        kinds = {"alike": 0, "unlike": 0}
        for graph, other in pairs_of_graphs():
            paper = alike_paper(graph, other)
            kinds[paper[0]] += 1
            self.assertIs(paper[0] == "alike", are_alike(graph, other))
            self.assertIs(is_alike_paper(graph, other, paper), True)
            if paper[0] == "alike":
                for pairs in (matching(graph, other), widest_matching(graph, other)):
                    self.assertIs(is_alike_paper(graph, other, ("alike", pairs)), True)
                    self.assertIs(is_alike_paper(graph, other, ("alike", pairs[1:])), False)
                    self.assertIs(is_alike_paper(graph, other, ("unlike", pairs)), False)
            else:
                looks = looks_at(graph, other, paper[1])
                self.assertTrue(looks is not None and looks[0] != looks[1])
                pairs = tuple(sorted(naive_matching_pairs(graph.nodes, other.nodes)))
                self.assertIs(is_alike_paper(graph, other, ("alike", pairs)), False)
        self.assertGreater(min(kinds.values()), 20)

    def test_all_short_addresses(self):
        addresses = [()]
        for _ in range(5):
            addresses += [address + (step,) for address in addresses for step in (0, 1, 2) if len(address) < 6]
        addresses = sorted(set(addresses))[:400]
        good = 0
        for graph, other in pairs_of_graphs(85):
            for address in addresses[::7]:
                wanted = self.naive_is_paper(graph, other, ("unlike", address))
                good += wanted
                self.assertIs(is_alike_paper(graph, other, ("unlike", address)), wanted)
        self.assertGreater(good, 20)

    def test_repeated_addresses(self):
        nest, cross = graph_of(NEST), graph_of(CROSS)
        for times in (0, 1, 2, 3, 10, 11, 10 ** 20, 10 ** 20 + 1, FAR - 1, FAR):
            for address in ((((0, 1), times), 0, 0), (((0, 1, 0, 1), times), 0, 1, 0, 0)):
                wanted = times % 2 == 1 or len(address) > 3
                self.assertIs(is_alike_paper(nest, cross, ("unlike", address)), wanted, address)
                self.assertIs(is_alike_paper(cross, nest, ("unlike", address)), wanted, address)
                self.assertIs(is_alike_paper(nest, nest, ("unlike", address)), False)
        for address in ((((0, 1), FAR + 1), 0, 0), (((0, 1), FAR - 1),), (((0, 1), FAR - 1), 0, 0, 0), (((2,), 0), 0, 1, 0, 0, 0),
                        (((0, 1), -1), 0, 1, 0, 0), (((), 5), 0, 1, 0, 0), [0, 1, 0, 0], (0, 1, 0, False)):
            self.assertIs(is_alike_paper(nest, cross, ("unlike", address)), False, address)
        self.assertIs(is_alike_paper(nest, cross, ("unlike", (((2,), 0), 0, 1, 0, 0))), True)

    def test_addresses_that_lead_to_one_place_only(self):
        one, two = graph_of(read("f(g())")), graph_of(read("f(g(k()))"))
        self.assertIs(is_alike_paper(one, two, ("unlike", (0,))), True)
        for address in ((), (0, 0), (0, 0, 0), (1,)):
            self.assertIs(is_alike_paper(one, two, ("unlike", address)), False)

    def test_any_value(self):
        for graph, other in ((graph_of(ROLL), graph_of(LONG)), (graph_of(NEST), graph_of(CROSS))):
            paper = alike_paper(graph, other)
            for value in odd_values() + [list(paper), paper + (0,), paper[:1], ("like", paper[1])]:
                self.assertIs(is_alike_paper(graph, other, value), False, shown(value))
            for value in exchanged(paper, [None, True, False, 0, 1, 2, "", "alike", "unlike", (), (0,), (0, 0), [], {}, graph]):
                wanted = value == paper and type(value) is tuple and repr(value) == repr(paper)
                wanted = wanted or self.naive_is_paper(graph, other, value)
                self.assertIs(is_alike_paper(graph, other, value), wanted, shown(value))


class Errors(Case):

    def test_errors(self):
        graphs = ([Graph(K)], wrong_graphs())
        for call in (first_difference, alike_paper):
            check_errors(self, call, graphs, graphs)
        for value in (("unlike", ()), ("alike", ((0, 0),)), None, ("alike", None), ("unlike", None)):
            check_errors(self, is_alike_paper, graphs, graphs, ([value], []))
        self.fails(InvalidGraph, first_of(lambda value: iter([first_difference(value, value)])), APART)

    def test_everything_stands_in_its_module(self):
        for name in "first_difference is_alike_up_to alike_paper is_alike_paper".split():
            self.assertEqual(getattr(differences, name).__module__, "sharedlets.alike.differences")


class Examples(Case):

    def test_examples_of_the_document(self):
        nest, cross = graph_of(NEST), graph_of(CROSS)
        self.assertEqual(
            [first_difference(nest, cross), is_alike_up_to(nest, cross, 3),
             is_alike_paper(nest, cross, ("unlike", (((0, 1), 3), 0, 0)))],
            [((0, 1, 0, 0), ('var', 2), ('var', 4)), True, True])
        self.assertEqual(
            [first_difference(graph_of(ROLL), graph_of(read("f(g())"))), alike_paper(graph_of(ROLL), graph_of(LONG))[0]],
            [((0,), ('word', 'g', 1), ('word', 'g', 0)), 'alike'])


if __name__ == "__main__":
    unittest.main()
