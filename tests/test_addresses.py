"""Tests of addresses and looks: [0.11], [5.1], [5.2]."""

import random
import unittest
from math import lcm

from sharedlets.errors import InvalidAddress, InvalidGraph, InvalidNumber, InvalidOperation, TooMany
from sharedlets.graphs.graphs import Graph
from sharedlets.graphs.made import graph_of
from sharedlets.looks import addresses
from sharedlets.looks.addresses import (
    MAX_TIMES, copies_at, cut, is_address, length_of, look, node_at, owner_at, plain,
)
from sharedlets.terms.texts import read
from tests.helper import (
    APART, CROSS, NEST, ROLL, Case, children_of, exchanged, naive_look, naive_places, naive_way, nearest, odd_values,
    random_graph_nodes, shown,
)

FAR = 10 ** 30
K = ("word", "k", ())
DEEP = read("let g = fun a. let h = fun b. let i = fun c. f(pair(a, c), pair(b, h), pair(c, i, g)) in i in h in g")


def graphs():
    rng = random.Random(51)
    rows = random_graph_nodes(rng, 60, 5, 1) + random_graph_nodes(rng, 40, 9, 2) + random_graph_nodes(rng, 10, 25, 5)
    return [Graph.of(nodes) for nodes in rows] + [graph_of(term) for term in (ROLL, NEST, CROSS, APART, DEEP)]


def is_number(value, most):
    return type(value) is int and 0 <= value <= most


def naive_is_address(value):
    if not isinstance(value, tuple):
        return False
    for element in value:
        if is_number(element, 2):
            continue
        if not isinstance(element, tuple) or len(element) != 2 or not isinstance(element[0], tuple) or element[0] == ():
            return False
        if not all(is_number(step, 2) for step in element[0]) or not is_number(element[1], FAR):
            return False
    return True


def no_addresses():
    return [value for value in odd_values() if not naive_is_address(value)] + [
        (3,), (-1,), (0, 3), (True,), (0, False), ("0",), (None,), [0], ([0],), ((0,),), (((0,),),), (((0,), 1, 1),), (((), 1),),
        (((3,), 1),), (((-1,), 1),), (((True,), 1),), (((0,), -1),), (((0,), True),), (((0,), None),), (((0,), "1"),),
        (((0,), FAR + 1),), (([0], 1),), ([(0,), 1],), ((0, 1),), ((((0,), 1), 1),), (0, 1, ((0, ()), 2)),
    ]


def spelled(address):
    """The plain address, of few steps."""
    steps = ()
    for element in address:
        steps += element[0] * element[1] if isinstance(element, tuple) else (element,)
    return steps


def naive_copies(graph, way):
    return tuple(nearest(way, function) for function in graph.scope(way[-1]))


class Forms(Case):

    def test_constant(self):
        self.assertEqual(MAX_TIMES, 10 ** 30)

    def test_addresses(self):
        for value in ((), (0,), (1,), (2,), (0, 1, 2), (((0,), 0),), (((0,), 1),), (((2, 1, 0), FAR),), (0, ((1,), 5), 2),
                      (((0,), 1), ((0,), 1)), (((0,) * 500, 3),), (0,) * 3000):
            self.assertIs(is_address(value), True)
        for value in no_addresses():
            self.assertIs(is_address(value), False, shown(value))

    def test_any_value(self):
        for value in odd_values() + [(value,) for value in odd_values()] + [((value, 1),) for value in odd_values()]:
            self.assertIs(is_address(value), naive_is_address(value), shown(value))
        for value in odd_values():
            self.assertIs(is_address((((0,), value),)), naive_is_address((((0,), value),)), shown(value))

    def test_one_part_exchanged(self):
        others = [None, True, False, 0, 2, 3, -1, FAR, FAR + 1, "", "0", (), (0,), (3,), [], [0], {}, ((0,), 1), ((0, 1), 0)]
        for value in exchanged((0, ((1, 2), 7), 2, ((0,), 0)), others):
            self.assertIs(is_address(value), naive_is_address(value), shown(value))
            if naive_is_address(value):
                self.assertGreaterEqual(length_of(value), 0)
            else:
                self.fails(InvalidAddress, length_of, value)

    def test_lengths(self):
        rows = {(): 0, (0,): 1, (0, 1, 2): 3, (((0,), 0),): 0, (((0, 1), 0), 2): 1, (((0, 1), 1),): 2, (((0, 1, 2), 5), 1): 16,
                (((0, 1), FAR), ((2,), FAR), 0): 3 * FAR + 1, (((0,), 3), ((0,), 0), ((1, 1), 2)): 7}
        for address, length in rows.items():
            self.assertEqual(length_of(address), length)
        self.assertEqual(length_of((0,) * 2000), 2000)

    def test_errors_of_form(self):
        graph = graph_of(CROSS)
        for value in no_addresses():
            self.fails(InvalidAddress, length_of, value)
            self.fails(InvalidAddress, plain, value)
            self.fails(InvalidAddress, cut, value, 0)
            self.fails(InvalidAddress, cut, value, None)
            for function in (look, node_at, copies_at, owner_at):
                self.fails(InvalidAddress, function, graph, value)


class PlainAddresses(Case):

    def test_plain(self):
        rows = {(): (), (0, 1): (0, 1), (((0, 1), 2),): (0, 1, 0, 1), (((0, 1), 0),): (), (2, ((0, 1), 1), ((1,), 3), 0): (
            2, 0, 1, 1, 1, 1, 0), (((0, 2), 0), 1, ((0, 2), 0)): (1,)}
        for address, steps in rows.items():
            self.assertEqual(plain(address), steps)
        self.assertIs(type(plain((((0, 1), 2),))), tuple)

    def test_1000_steps(self):
        self.assertEqual(plain((((0, 1), 500),)), (0, 1) * 500)
        self.assertEqual(plain((((0, 1), 499), 2, 2)), (0, 1) * 499 + (2, 2))
        self.assertEqual(plain((0,) * 1000), (0,) * 1000)
        self.assertEqual(plain((((0,), 0),) * 2000), ())
        for address in ((((0, 1), 500), 2), (2, ((0, 1), 500)), (0,) * 1001, (((0,), 1001),), (((0,), FAR),), (((0,), 501),) * 2):
            self.fails((TooMany, ("limit", 1000)), plain, address)
        for address in ((0,) * 1001 + (3,), (((0,), FAR), None), (((0,), FAR), ((0,), FAR + 1))):
            self.fails(InvalidAddress, plain, address)
            self.fails(InvalidAddress, cut, address, -1)
            self.fails(InvalidAddress, node_at, graph_of(NEST), address)


class Cuts(Case):

    def test_by_hand(self):
        address = (0, ((1, 2), 3), ((0,), 0), 1, ((2,), 0), ((0, 0, 1), FAR), ((1,), 0))
        most = 3 * FAR + 8
        rows = {
            0: (),
            1: (0,),
            2: (0, 1),
            3: (0, ((1, 2), 1)),
            4: (0, ((1, 2), 1), 1),
            5: (0, ((1, 2), 2)),
            6: (0, ((1, 2), 2), 1),
            7: (0, ((1, 2), 3)),
            8: (0, ((1, 2), 3), ((0,), 0), 1),
            9: (0, ((1, 2), 3), ((0,), 0), 1, ((2,), 0), 0),
            10: (0, ((1, 2), 3), ((0,), 0), 1, ((2,), 0), 0, 0),
            11: (0, ((1, 2), 3), ((0,), 0), 1, ((2,), 0), ((0, 0, 1), 1)),
            12: (0, ((1, 2), 3), ((0,), 0), 1, ((2,), 0), ((0, 0, 1), 1), 0),
            most - 1: (0, ((1, 2), 3), ((0,), 0), 1, ((2,), 0), ((0, 0, 1), FAR - 1), 0, 0),
            most: (0, ((1, 2), 3), ((0,), 0), 1, ((2,), 0), ((0, 0, 1), FAR)),
        }
        self.assertEqual(length_of(address), most)
        for length, wanted in rows.items():
            self.assertEqual(cut(address, length), wanted)
        self.assertEqual(cut((((0, 1), 1),), 1), (0,))
        self.assertEqual(cut((((0, 1), 1),), 2), (((0, 1), 1),))
        self.assertEqual(cut((((0,), 5),), 3), (((0,), 3),))
        self.assertEqual(cut((((0,), 0), 1), 0), ())
        self.assertEqual(cut((((0,), 0), 1), 1), (((0,), 0), 1))
        self.assertEqual(cut((((0,), 0),), 0), ())

    def test_first_steps(self):
        rng = random.Random(52)
        for _ in range(200):
            address = any_address(rng, rng.randrange(5))
            steps = spelled(address)
            for length in range(len(steps) + 1):
                part = cut(address, length)
                self.assertTrue(naive_is_address(part))
                self.assertEqual(spelled(part), steps[:length])
                self.assertEqual(cut(part, length), part)

    def test_invalid_lengths(self):
        for address in ((), (0, 1), (((0, 1), 3),), (((0,), FAR),)):
            for value in (-1, length_of(address) + 1, None, True, False, "", "0", (), (0,), [], {}, 10 ** 39, (0,) * 3):
                self.fails((InvalidNumber, ("value", value)), cut, address, value)
        for value in odd_values():
            if type(value) is not int or not 0 <= value <= 2:
                with self.assertRaises(InvalidNumber) as caught:
                    cut((0, 1), value)
                self.assertIs(caught.exception.value, value)


def any_address(rng, elements):
    address = ()
    for _ in range(elements):
        if rng.random() < 0.5:
            address += (rng.randrange(3),)
        else:
            address += ((tuple(rng.randrange(3) for _ in range(rng.randrange(1, 4))), rng.randrange(4)),)
    return address


class Places(Case):

    def check_place(self, graph, address, steps):
        """What stands at an address with these steps, step by step, or that there is nothing."""
        way = naive_way(graph.nodes, steps)
        if way is None:
            for function in (look, node_at, copies_at, owner_at):
                self.fails(InvalidAddress, function, graph, address)
            return
        self.assertEqual(node_at(graph, address), way[-1])
        self.assertEqual(look(graph, address), naive_look(graph.nodes, way))
        self.assertEqual(copies_at(graph, address), naive_copies(graph, way))
        if graph[way[-1]][0] == "var":
            owner = nearest(way, graph[way[-1]][1])
            self.assertEqual(owner_at(graph, address), cut(address, owner))
            self.assertEqual(spelled(owner_at(graph, address)), steps[:owner])
        else:
            self.fails(InvalidOperation, owner_at, graph, address)

    def test_plain_addresses(self):
        for graph in graphs():
            for steps in naive_places(graph.nodes, 4):
                self.check_place(graph, steps, steps)
                for last in range(3):
                    self.check_place(graph, steps + (last,), steps + (last,))

    def test_copies_ascend(self):
        longest = 0
        for graph in graphs():
            for steps in naive_places(graph.nodes, 6):
                copies = copies_at(graph, steps)
                self.assertIs(type(copies), tuple)
                self.assertEqual(copies, tuple(sorted(set(copies))))
                self.assertEqual(len(copies), len(graph.scope(node_at(graph, steps))))
                longest = max(longest, len(copies))
        self.assertGreater(longest, 2)

    def test_addresses_with_pairs(self):
        rng = random.Random(53)
        inside = 0
        for graph in graphs():
            for _ in range(30):
                address = self.way_with_pairs(rng, graph)
                steps = spelled(address)
                inside += naive_way(graph.nodes, steps) is not None
                self.check_place(graph, address, steps)
        self.assertGreater(inside, 500)

    def way_with_pairs(self, rng, graph):
        """An address that mostly stays in the tree: pieces that lead to their own beginning are repeated."""
        address, node = (), 0
        for _ in range(rng.randrange(1, 4)):
            piece, at = (), node
            for _ in range(rng.randrange(1, 6)):
                children = children_of(graph[at])
                if not children:
                    break
                piece += (rng.randrange(len(children)),)
                at = children[piece[-1]]
                if at == node:
                    break
            if not piece:
                break
            times = rng.randrange(8) if at == node or rng.random() < 0.3 else rng.randrange(2)
            address += ((piece, times),) if rng.random() < 0.8 else piece
            way = naive_way(graph.nodes, spelled(address))
            if way is None:
                return address
            node = way[-1]
        return address + (rng.randrange(3),) if rng.random() < 0.3 else address

    def test_pieces_that_are_passed_over(self):
        for graph in graphs()[:30]:
            for steps in list(naive_places(graph.nodes, 3))[:20]:
                address = (((2, 2, 2), 0),) + tuple(x for step in steps for x in (step, ((0, 0, 2), 0)))
                self.check_place(graph, address, steps)

    def test_leaving_the_tree(self):
        leaf = Graph(K)
        unary = graph_of(read("let x = f(g(x)) in x"))
        for address in ((0,), (((0,), 1),), (((0,), FAR),)):
            self.fails(InvalidAddress, look, leaf, address)
        self.assertEqual(look(leaf, ()), ("word", "k", 0))
        self.assertEqual(look(leaf, (((0,), 0),)), ("word", "k", 0))
        for address in ((1,), (0, 0, 1), (((0, 1), 1),), (((0, 0, 1), FAR),), (((0,), FAR), 1), (((0,), FAR), ((0, 0, 0, 2), 1))):
            self.fails(InvalidAddress, node_at, unary, address)
        below = graph_of(read("fun a. pair(a, fun b. b)"))
        for address in ((0, 0, 0), (0, 1, 0, 0), (0, 2), (1,), (0, 1, 1)):
            for function in (look, node_at, copies_at, owner_at):
                self.fails(InvalidAddress, function, below, address)
        # Three rounds stay in the tree, and the fourth one leaves it in the midst of the piece.
        rounds = graph_of(read("f(g(f(g(f(g(f(k())))))))"))
        self.assertEqual(node_at(rounds, (((0, 0), 3),)), 6)
        self.assertEqual(node_at(rounds, (((0, 0), 3), 0)), 7)
        for times in (4, 5, 100, FAR):
            self.fails(InvalidAddress, node_at, rounds, (((0, 0), times),))

    def test_far_out_by_hand(self):
        apart = graph_of(APART)
        self.assertEqual(look(apart, (0, ((0, 1), FAR), 0, 0)), ("var", 2 * FAR + 3))
        self.assertEqual(copies_at(apart, (0, ((0, 1), FAR), 0, 0)), (0,))
        self.assertEqual(owner_at(apart, (0, ((0, 1), FAR), 0, 0)), ())
        nest = graph_of(NEST)
        self.assertEqual(look(nest, (((0, 1), FAR), 0, 0)), ("var", 2))
        self.assertEqual(copies_at(nest, (((0, 1), FAR), 0, 0)), (2 * FAR,))
        self.assertEqual(owner_at(nest, (((0, 1), FAR), 0, 0)), (((0, 1), FAR),))
        self.assertEqual(owner_at(nest, (((0, 1), FAR), ((0, 0), 1))), (((0, 1), FAR),))
        self.assertEqual(owner_at(nest, (((0, 1), FAR - 1), ((0, 1, 0, 0), 1))), (((0, 1), FAR - 1), 0, 1))
        cross = graph_of(CROSS)
        self.assertEqual(look(cross, (((0, 1), FAR), 0, 0)), ("var", 2))
        self.assertEqual(look(cross, (((0, 1), FAR - 1), 0, 0)), ("var", 4))
        self.assertEqual(owner_at(cross, (((0, 1), FAR - 1), 0, 0)), (((0, 1), FAR - 2),))
        both = graph_of(read("fun a. let g = fun b. fun c. f(a, b, g) in g"))
        far = (0, ((0, 0, 2), FAR), 0, 0, 1)
        self.assertEqual(copies_at(both, far), (0, 3 * FAR + 1))
        self.assertEqual(look(both, far), ("var", 3))
        self.assertEqual(look(both, far[:-1] + (0,)), ("var", 3 * FAR + 4))

    def test_one_place_by_many_addresses(self):
        rng = random.Random(54)
        for graph in graphs():
            for start, piece in self.rings_of(graph)[:12]:
                head, tail = rng.choice((start, ((start, 1),) if start else ())), any_tail(rng, graph, start + piece)
                many = rng.choice((FAR, FAR - 1, 10 ** 20 + 7, 12345678901))
                wanted = self.facts(graph, head + ((piece, many),) + tail)
                for same in (
                    ((piece, many - 1),) + piece, piece + ((piece, many - 1),), ((piece, many // 3), (piece, many - many // 3)),
                    ((piece * 2, many // 2), (piece, many - many // 2 * 2)), ((piece, 40), (piece, many - 40)),
                    ((piece * 7, many // 7), (piece, many - many // 7 * 7)), ((piece, many - 3), (piece * 3, 1)),
                    piece[:1] + ((piece[1:] + piece[:1], many - 1),) + piece[1:],
                ):
                    self.assertEqual(self.facts(graph, head + same + tail), wanted)

    def rings_of(self, graph):
        """Pairs (address, piece): from the place the piece leads round and round."""
        places = naive_places(graph.nodes, 6)
        found = []
        for address, way in places.items():
            for length in range(len(address)):
                if way[length] == way[-1]:
                    found.append((address[:length], address[length:]))
        return found

    def facts(self, graph, address):
        self.assertLessEqual(max([element[1] for element in address if isinstance(element, tuple)], default=0), FAR)
        node = node_at(graph, address)
        owner = length_of(owner_at(graph, address)) if graph[node][0] == "var" else None
        return node, look(graph, address), copies_at(graph, address), owner, length_of(address)

    def test_far_out_as_near(self):
        """Far out, all copies are where they are near, or as much deeper as there are more steps."""
        turn = lcm(*range(1, 13))
        checked = 0
        for graph in graphs()[:60]:
            for start, piece in self.rings_of(graph)[:4]:
                for extra in (0, 1, 5):
                    near = start + ((piece, 60 + extra),)
                    far = start + ((piece, 60 + extra + turn * 10 ** 20),)
                    node, seen, copies, owner, length = self.facts(graph, far)
                    way = naive_way(graph.nodes, spelled(near))
                    deeper = length - len(way) + 1
                    limit = len(spelled(near)) // 2
                    self.assertEqual(node, way[-1])
                    self.assertEqual(copies, tuple(
                        at if at < limit else at + deeper for at in naive_copies(graph, way)))
                    checked += len(copies) > 0
        self.assertGreater(checked, 50)

    def test_pieces_with_other_nodes_behind_each_round(self):
        """A piece that comes back to its node only behind several rounds."""
        graph = graph_of(read("let x = fun a. y; y = fun b. f(b, z); z = fun c. x in x"))
        self.assertEqual(graph.nodes[2][0], "word")
        for piece in ((0,), (0, 0), (0, 0, 1), (0, 0, 1, 0)):
            for times in range(30):
                self.check_place(graph, ((piece, times),), piece * times)
        three = graph_of(read("let x = f(g(h(x))) in fun a. pair(x, a)"))
        self.assertEqual([node_at(three, (0, ((0,), FAR + at))) for at in (-3, -2, -1, 0)],
                         [node_at(three, (0, ((0,), 999 + FAR % 3 + at))) for at in (-3, -2, -1, 0)])

    def test_long_addresses(self):
        cross = graph_of(CROSS)
        address = (((0, 1), 10 ** 20 * 2), ((0, 1, 0, 1), 10 ** 20)) * 200 + (0, 0)
        self.assertEqual(look(cross, address), ("var", 2))
        self.assertEqual(copies_at(cross, address), (200 * (4 * 10 ** 20 + 4 * 10 ** 20),))
        self.assertEqual(node_at(cross, (0, 1) * 4000), 0)
        self.assertEqual(look(cross, (((0, 1) * 3001, 1), 0, 0)), ("var", 4))

    def test_errors(self):
        graph = graph_of(CROSS)
        for value in odd_values() + [CROSS, graph.nodes, list(graph), None]:
            if not isinstance(value, Graph):
                for function in (look, node_at, copies_at, owner_at):
                    for address in ((), (2,), None, [0]):
                        self.fails(InvalidGraph, function, value, address)
        for address in ((), (0,), (0, 1), (((0, 1), FAR), 0), (((0, 0), 0),)):
            self.fails(InvalidOperation, owner_at, graph, address)

    def test_looks_are_tuples(self):
        graph = graph_of(read("fun a. pair(a, k(), f(a, a, a))"))
        self.assertEqual([look(graph, address) for address in ((), (0,), (0, 0), (0, 1), (0, 2), (0, 2, 1))],
                         [("fun",), ("word", "pair", 3), ("var", 2), ("word", "k", 0), ("word", "f", 3), ("var", 3)])


def any_tail(rng, graph, address):
    """Some plain steps that stay in the tree behind this plain address."""
    node, tail = naive_way(graph.nodes, address)[-1], ()
    for _ in range(rng.randrange(5)):
        children = children_of(graph[node])
        if not children:
            break
        tail += (rng.randrange(len(children)),)
        node = children[tail[-1]]
    return tail


class Conventions(Case):

    def test_everything_stands_in_its_module(self):
        for name in "is_address length_of plain cut look node_at copies_at owner_at".split():
            self.assertEqual(getattr(addresses, name).__module__, "sharedlets.looks.addresses")


class Examples(Case):

    def test_examples_of_the_document(self):
        nest, cross = graph_of(NEST), graph_of(CROSS)
        self.assertEqual(
            [look(cross, (0, 1, 0, 0)), look(nest, (0, 1, 0, 0)), node_at(cross, (0, 1, 0)), copies_at(cross, (0, 1, 0))],
            [('var', 4), ('var', 2), 4, (0,)])
        far = (((0, 1, 0, 1), 10 ** 30), 0, 0)
        self.assertEqual(
            [look(cross, far), length_of(far), owner_at(cross, far), cut(far, 6), plain(cut(far, 6))],
            [('var', 2), 4000000000000000000000000000002, (((0, 1, 0, 1), 1000000000000000000000000000000),),
             (((0, 1, 0, 1), 1), 0, 1), (0, 1, 0, 1, 0, 1)])


if __name__ == "__main__":
    unittest.main()
