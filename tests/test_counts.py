"""Tests of counting: [6.1]."""

import inspect
import random
import unittest

from sharedlets.errors import InvalidAddress, InvalidGraph, InvalidNumber, TooMany
from sharedlets.graphs.graphs import Graph
from sharedlets.graphs.made import graph_of
from sharedlets.looks import counts
from sharedlets.looks.addresses import node_at
from sharedlets.looks.counts import (
    MAX_DEPTH, address_of, first_address, level_size, level_sizes, node_times, number_of,
)
from sharedlets.terms.texts import read
from tests.helper import CROSS, LONG, NEST, ROLL, Case, naive_places, odd_values, random_graph_nodes

K = ("word", "k", ())
TWO = graph_of(read("let x = pair(x, x) in x"))
THREE = graph_of(read("let x = f(x, x, g(x)) in x"))
UNEVEN = graph_of(read("let x = fun a. f(a, x, pair(x, k())); y = f(y) in pair(x, h(y))"))


def graphs():
    rows = random_graph_nodes(random.Random(61), 50, 5, 1) + random_graph_nodes(random.Random(62), 20, 9, 2)
    return [Graph.of(nodes) for nodes in rows] + [graph_of(term) for term in (ROLL, NEST, CROSS)] + [TWO, THREE, UNEVEN]


def no_numbers():
    return [-1, -(10 ** 39), None, True, False, "", "1", (), (0,), [], [1], {}, {0: 1}]


class Counts(Case):

    def test_constant(self):
        self.assertEqual(MAX_DEPTH, 1000)

    def test_small_depths(self):
        for graph in graphs():
            places = naive_places(graph.nodes, 5)
            sizes = []
            for depth in range(6):
                level = sorted(address for address in places if len(address) == depth)
                sizes.append(len(level))
                self.assertEqual(level_size(graph, depth), len(level))
                self.assertEqual(list(level_sizes(graph, depth)), sizes)
                for node in range(len(graph)):
                    times = sum(places[address][-1] == node for address in level)
                    self.assertEqual(node_times(graph, node, depth), times)
                for number, address in enumerate(level):
                    self.assertEqual(number_of(graph, address), number)
                    self.assertEqual(address_of(graph, depth, number), address)
                self.fails((InvalidNumber, ("value", len(level))), address_of, graph, depth, len(level))

    def test_great_depths(self):
        self.assertEqual(level_size(TWO, 1000), 2 ** 1000)
        self.assertEqual(list(level_sizes(TWO, 1000)), [2 ** depth for depth in range(1001)])
        self.assertEqual(level_size(graph_of(ROLL), 1000), 1)
        self.assertEqual(level_size(Graph(K), 1000), 0)
        self.assertEqual(list(level_sizes(Graph(K), 1000)), [1] + 1000 * [0])
        self.assertEqual(node_times(TWO, 0, 1000), 2 ** 1000)
        self.assertEqual(node_times(Graph(("word", "f", (0, 0, 0))), 0, 1000), 3 ** 1000)
        for graph in (THREE, UNEVEN):
            sizes = list(level_sizes(graph, 1000))
            self.assertEqual(len(sizes), 1001)
            self.assertGreater(len(str(sizes[-1])), 100)
            for depth in (0, 1, 500, 999, 1000):
                self.assertEqual(level_size(graph, depth), sizes[depth])
                self.assertEqual(sum(node_times(graph, node, depth) for node in range(len(graph))), sizes[depth])

    def test_sizes_that_follow_from_one_another(self):
        # Each place of THREE below a place for x is x, x and g, and below each g stands x again.
        sizes = list(level_sizes(THREE, 1000))
        nodes = [(1, 0)]
        for _ in range(1000):
            many, others = nodes[-1]
            nodes.append((2 * many + others, many))
        self.assertEqual(sizes, [sum(pair) for pair in nodes])
        self.assertEqual(node_times(THREE, 0, 1000), nodes[1000][0])
        self.assertEqual(node_times(THREE, 1, 1000), nodes[1000][1])

    def test_level_sizes_are_a_generator(self):
        rows = level_sizes(TWO, 1000)
        self.assertTrue(inspect.isgenerator(rows))
        self.assertEqual([next(rows), next(rows), next(rows)], [1, 2, 4])
        for wanted, graph, depth in ((InvalidGraph, None, -1), ((InvalidNumber, ("value", -1)), TWO, -1),
                                     ((TooMany, ("limit", 1000)), TWO, 1001), ((InvalidNumber, ("value", True)), TWO, True)):
            rows = level_sizes(graph, depth)
            self.fails(wanted, next, rows)


class FirstAddresses(Case):

    def test_first_addresses(self):
        for graph in graphs():
            places = naive_places(graph.nodes, 5)
            for node in range(len(graph)):
                found = [address for address, way in places.items() if way[-1] == node]
                if found:
                    self.assertEqual(first_address(graph, node), min(found, key=lambda address: (len(address), address)))
                self.assertEqual(node_at(graph, first_address(graph, node)), node)

    def test_by_hand(self):
        graph = graph_of(read("let x = k() in f(g(g(x)), h(x), h(x))"))
        self.assertEqual(graph.nodes, (
            ("word", "f", (1, 4, 5)), ("word", "g", (2,)), ("word", "g", (3,)), K, ("word", "h", (3,)), ("word", "h", (3,))))
        self.assertEqual([first_address(graph, node) for node in range(6)], [(), (0,), (0, 0), (1, 0), (1,), (2,)])
        self.assertIs(type(first_address(graph, 0)), tuple)

    def test_long_first_addresses(self):
        row = Graph.of(tuple(("word", "f", (at + 1, 0)) for at in range(99)) + (K,))
        self.assertEqual(first_address(row, 99), (0,) * 99)
        back = Graph.of(tuple(("word", "f", (0, at + 1)) for at in range(99)) + (K,))
        self.assertEqual(first_address(back, 99), (1,) * 99)


class NumbersOfPlaces(Case):

    def test_one_undoes_the_other(self):
        rng = random.Random(63)
        for graph in (TWO, THREE, UNEVEN, graph_of(CROSS), graph_of(LONG)):
            for depth in (0, 1, 7, 50, 999, 1000):
                most = level_size(graph, depth)
                for number in {0, most // 2, most // 3, most - 1, rng.randrange(most)}:
                    address = address_of(graph, depth, number)
                    self.assertEqual(len(address), depth)
                    self.assertEqual(number_of(graph, address), number)
                    self.assertIs(type(address), tuple)

    def test_order_of_addresses(self):
        for graph in (TWO, THREE, UNEVEN):
            most = level_size(graph, 300)
            numbers = sorted({most * part // 40 for part in range(40)} | {0, 1, 2, most - 2, most - 1})
            found = [address_of(graph, 300, number) for number in numbers]
            self.assertEqual(found, sorted(found))
            self.assertEqual(len(set(found)), len(numbers))
        self.assertEqual(address_of(TWO, 1000, 0), (0,) * 1000)
        self.assertEqual(address_of(TWO, 1000, 2 ** 1000 - 1), (1,) * 1000)
        self.assertEqual(address_of(TWO, 1000, 2 ** 999), (1,) + (0,) * 999)
        self.assertEqual(number_of(TWO, (1, 0) * 500), 2 * (4 ** 500 - 1) // 3)

    def test_addresses_with_pairs(self):
        self.assertEqual(number_of(TWO, (((1, 0), 500),)), 2 * (4 ** 500 - 1) // 3)
        self.assertEqual(number_of(TWO, (((1,), 1000),)), 2 ** 1000 - 1)
        self.assertEqual(number_of(TWO, (((0, 1), 0), 1, ((0,), 3))), 8)
        self.assertEqual(number_of(graph_of(CROSS), (((0, 1, 0, 1), 200), 0, 1)), 1)
        self.assertEqual(number_of(TWO, ()), 0)
        self.assertEqual(number_of(TWO, (((1,), 0),)), 0)

    def test_numbers_that_are_not_there(self):
        for graph, depth, most in ((TWO, 0, 1), (TWO, 3, 8), (TWO, 1000, 2 ** 1000), (graph_of(CROSS), 6, 2)):
            self.assertEqual(len(address_of(graph, depth, most - 1)), depth)
            for value in no_numbers() + [most, most + 1]:
                self.fails((InvalidNumber, ("value", value)), address_of, graph, depth, value)
        for value in no_numbers() + [0, 1]:
            self.fails((InvalidNumber, ("value", value)), address_of, Graph(K), 1, value)
        for value in odd_values():
            if type(value) is not int:
                with self.assertRaises(InvalidNumber) as caught:
                    address_of(TWO, 2, value)
                self.assertIs(caught.exception.value, value)


class Errors(Case):

    def test_graphs(self):
        for value in odd_values() + [CROSS, TWO.nodes]:
            if not isinstance(value, Graph):
                for other in (0, -1, None, 1001):
                    self.fails(InvalidGraph, level_size, value, other)
                    self.fails(InvalidGraph, next, level_sizes(value, other))
                    self.fails(InvalidGraph, node_times, value, other, other)
                    self.fails(InvalidGraph, node_times, value, 0, other)
                    self.fails(InvalidGraph, first_address, value, other)
                    self.fails(InvalidGraph, address_of, value, other, other)
                    self.fails(InvalidGraph, address_of, value, 0, 0)
                for address in ((), (2,), None, (((0,), 1001),)):
                    self.fails(InvalidGraph, number_of, value, address)

    def test_depths(self):
        for value in no_numbers():
            wanted = (InvalidNumber, ("value", value))
            self.fails(wanted, level_size, TWO, value)
            self.fails(wanted, next, level_sizes(TWO, value))
            self.fails(wanted, node_times, TWO, 0, value)
            for number in (0, -7, None, "x", 10 ** 39):
                self.fails(wanted, address_of, TWO, value, number)
        for value in odd_values():
            if type(value) is not int or value < 0:
                with self.assertRaises(InvalidNumber) as caught:
                    level_size(TWO, value)
                self.assertIs(caught.exception.value, value)

    def test_nodes(self):
        for value in no_numbers() + [len(UNEVEN), 10 ** 39]:
            wanted = (InvalidNumber, ("value", value))
            for depth in (0, -7, None, 1001):
                self.fails(wanted, node_times, UNEVEN, value, depth)
            self.fails(wanted, first_address, UNEVEN, value)

    def test_addresses(self):
        for value in odd_values() + [(2,), (0, 3), (True,), [0], (((0,), 10 ** 30), 2), (((0, 2), 10 ** 30),), (0,) * 1001 + (2,)]:
            if not (isinstance(value, tuple) and value in ((), (0,), (0, 1), (((0,), 1),), (((0,), 10 ** 30),))):
                self.fails(InvalidAddress, number_of, TWO, value)

    def test_depth_of_1001(self):
        wanted = (TooMany, ("limit", 1000))
        for depth in (1001, 1500, 10 ** 39):
            self.fails(wanted, level_size, TWO, depth)
            self.fails(wanted, next, level_sizes(TWO, depth))
            self.fails(wanted, node_times, TWO, 0, depth)
            self.fails((InvalidNumber, ("value", 1)), node_times, TWO, 1, depth)
            for number in (0, -1, None, "x", True, 10 ** 39):
                self.fails(wanted, address_of, TWO, depth, number)
        for address in ((0,) * 1001, (((0, 1), 501),), (((0, 1), 500), 0), (((1,), 10 ** 30),), (((0,), 10 ** 30), ((1,), 10 ** 30))):
            self.fails(wanted, number_of, TWO, address)
        self.assertEqual(number_of(TWO, (0,) * 1000), 0)

    def test_everything_stands_in_its_module(self):
        for name in "level_size level_sizes node_times first_address number_of address_of".split():
            self.assertEqual(getattr(counts, name).__module__, "sharedlets.looks.counts")


class Examples(Case):

    def test_examples_of_the_document(self):
        two, cross = graph_of(read("let x = pair(x, x) in x")), graph_of(CROSS)
        self.assertEqual(
            [list(level_sizes(cross, 6)), node_times(cross, 2, 4), first_address(cross, 4), level_size(two, 100) == 2 ** 100],
            [[1, 1, 2, 1, 2, 1, 2], 1, (0, 1, 0), True])
        self.assertEqual(
            [number_of(two, (1, 0, 1)), address_of(two, 3, 5), number_of(cross, (((0, 1, 0, 1), 200), 0, 1))],
            [5, (1, 0, 1), 1])


if __name__ == "__main__":
    unittest.main()
