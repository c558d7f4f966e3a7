"""Tests of graphs: [0.12], [0.13], [3.1]."""

import inspect
import random
import unittest

from sharedlets.errors import InvalidGraph, InvalidNumber, InvalidOperation, TooMany
from sharedlets.graphs.graphs import MAX_NODES, Graph
from sharedlets.graphs.made import graph_of
from sharedlets.terms.texts import read
from tests.helper import (
    CROSS, Case, children_of, exchanged, mixed, naive_are_nodes, naive_innermost, naive_look, naive_needs, naive_numbered,
    naive_places, naive_reached, naive_scope, odd_values, random_graph_nodes, random_nodes, shown,
)

K = ("word", "k", ())


def tuples_of_nodes():
    rng = random.Random(31)
    return random_graph_nodes(rng, 60, 6) + random_graph_nodes(rng, 40, 12, 3) + random_graph_nodes(rng, 10, 40, 8)


def long_row(many):
    """A graph with so many nodes, one below the other."""
    return tuple(("word", "f", (at + 1,)) for at in range(many - 1)) + (K,)


def no_numbers(graph):
    return [len(graph), -1, 10 ** 39, None, True, False, "", "0", (), (0,), [], [0], {}, {0: 0}, graph, K]


class WhichNodes(Case):

    def test_constant(self):
        self.assertEqual(MAX_NODES, 100)

    def test_simple_graphs(self):
        self.assertEqual(Graph(K).nodes, (K,))
        self.assertEqual(Graph(("fun", 1), ("var", 0)).nodes, (("fun", 1), ("var", 0)))
        self.assertEqual(Graph(("fun", 0)).nodes, (("fun", 0),))
        self.assertEqual(Graph(("word", "f", (0, 0, 0))).nodes, (("word", "f", (0, 0, 0)),))
        self.assertEqual(Graph(("fun", 1), ("word", "f", (0, 2)), ("var", 0)).nodes,
                         (("fun", 1), ("word", "f", (0, 2)), ("var", 0)))

    def check_nodes(self, nodes):
        if naive_are_nodes(nodes):
            self.assertEqual(Graph.of(nodes).nodes, naive_numbered(nodes), shown(nodes))
            self.assertEqual(Graph(*nodes).nodes, naive_numbered(nodes), shown(nodes))
        else:
            self.fails(InvalidGraph, Graph.of, nodes)
            if isinstance(nodes, tuple):
                self.fails(InvalidGraph, Graph, *nodes)

    def test_which_tuples_are_graphs(self):
        wrong = (
            (),
            (("var", 0),),
            (("fun", 1), ("var", 1)),
            (("fun", 1), K, ("var", 1)),
            (("fun", 1), ("var", 2), K),
            (("fun", 1), ("word", "f", (2, 3)), ("var", 0), ("var", 0)),
            (("var", 1), ("fun", 0)),
            (("word", "f", (1,)), ("var", 2), ("fun", 1)),
            (("word", "f", (1, 2)), ("fun", 2), ("var", 1)),
            (("fun", 1), ("word", "f", (2, 3)), ("fun", 3), ("var", 2)),
            (("fun", 1),),
            (("fun", -1),),
            (("word", "f", (1,)),),
            (("word", "f", (0, 0, 2)), K),
            (("word", "f", (0, -1)), K),
            (("word", "f", (0,) * 4),),
            (("word", "f", (False,)),),
            (("fun", False),),
            (("fun", 1), ("var", False)),
            (("fun", "0"),),
            (("fun", None),),
            (("word", "f", [0]),),
            (["word", "f", ()],),
            (("word", "f"),),
            (("word", "f", (), ()),),
            (("fun", 0, 0),),
            (("fun", "x", 0),),
            (("word", "", ()),),
            (("word", "abcdefghi", ()),),
            (("word", "let", ()),),
            (("word", "F", ()),),
            (("word", None, ()),),
            (("let", 0),),
            (("name", "x"),),
        )
        for nodes in wrong:
            self.assertFalse(naive_are_nodes(nodes))
            self.check_nodes(nodes)
            # The same among nodes that are not reached, but for what the root alone must not do.
            moved = tuple(self.moved(node) for node in nodes)
            self.check_nodes((K,) + moved)
            self.check_nodes((("fun", 1), ("var", 0)) + nodes)

    def moved(self, node):
        if not isinstance(node, tuple) or len(node) < 2:
            return node
        if node[0] == "word" and len(node) == 3 and isinstance(node[2], tuple):
            return ("word", node[1], tuple(self.later(child) for child in node[2]))
        return (node[0], self.later(node[1])) + node[2:]

    def later(self, number):
        return number + 1 if type(number) is int and number >= 0 else number

    def test_nodes_that_are_not_reached(self):
        for nodes in (
            (K, ("var", 2), ("fun", 0)),
            (K, ("word", "f", (2,)), ("var", 3), ("fun", 2)),
            (("fun", 0), ("var", 0)),
            (K, K, ("word", "g", (0, 1, 2))),
            (K, ("fun", 1)),
        ):
            self.assertTrue(naive_are_nodes(nodes))
            self.check_nodes(nodes)
        for nodes in (
            (K, ("var", 0)), (K, ("var", 1)), (K, ("fun", 2)), (K, ("fun", 1), ("var", 1), ("var", 1)), (K, ("word", "f", (2,))),
            (("fun", 1), ("var", 0), ("var", 0)), (K, ("word", "Q", ())), (K, None), (K, 0), (K, ()), (K, ("fun",)), (K, ["fun", 0]),
            (K, ("word", "f", (0, 0, 0, 0))), (K, ("var", True)),
        ):
            self.assertFalse(naive_are_nodes(nodes))
            self.check_nodes(nodes)

    def test_any_nodes(self):
        rng = random.Random(32)
        good = 0
        for _ in range(1500):
            nodes = random_nodes(rng, rng.randrange(1, 6))
            good += naive_are_nodes(nodes)
            self.check_nodes(nodes)
        self.assertGreater(good, 100)
        self.assertLess(good, 1400)

    def test_one_number_changed(self):
        rng = random.Random(33)
        for nodes in random_graph_nodes(rng, 40, 6):
            for at in range(len(nodes)):
                for kind in ("word", "fun", "var"):
                    number = rng.randrange(len(nodes))
                    other = ("word", "f", (number,)) if kind == "word" else (kind, number)
                    self.check_nodes(nodes[:at] + (other,) + nodes[at + 1:])

    def test_one_part_exchanged(self):
        others = [None, True, False, 0, 1, 4, 5, -1, 10 ** 39, "", "x", "fun", "abcdefghi", (), (0,), (0,) * 4, [], [0], {}, K,
                  ("fun", 0), ("var", 0), ("var", 3)]
        for nodes in (graph_of(CROSS).nodes, (("fun", 1), ("word", "f", (0, 2)), ("var", 0), K)):
            for value in exchanged(nodes, others):
                self.check_nodes(value)

    def test_any_value(self):
        for value in odd_values():
            self.check_nodes(value)
            self.check_nodes((value,))
            self.check_nodes((K, value))
            self.check_nodes((K, ("fun", value)))
            self.check_nodes((("word", value, ()),))
            self.check_nodes((("word", "f", value),))

    def test_100_nodes(self):
        self.assertEqual(Graph.of(long_row(100)).nodes, long_row(100))
        self.fails((TooMany, ("limit", 100)), Graph.of, long_row(101))
        self.fails((TooMany, ("limit", 100)), Graph, *long_row(130))
        self.assertEqual(Graph.of(long_row(100) + (K,) * 50).nodes, long_row(100))
        self.assertEqual(Graph.of((K,) + 150 * (("fun", 0),)).nodes, (K,))
        self.assertEqual(len(Graph.of((("word", "f", (21,)),) + long_row(120)[1:])), 100)
        self.fails((TooMany, ("limit", 100)), Graph.of, (("word", "f", (20,)),) + long_row(120)[1:])

    def test_100_nodes_are_checked_last(self):
        self.fails(InvalidGraph, Graph.of, long_row(120) + (("fun", 121),))
        self.fails(InvalidGraph, Graph.of, long_row(120) + (("var", 0),))
        needy = long_row(119)[:-1] + (("word", "k", (119,)), ("var", 120), ("fun", 0))
        self.fails(InvalidGraph, Graph.of, needy)
        self.fails((TooMany, ("limit", 100)), Graph.of, needy[:118] + (("word", "k", (120,)),) + needy[119:])


class Numbers(Case):

    def test_first_walk(self):
        self.assertEqual(Graph(("word", "f", (3, 1)), ("word", "b", ()), K, ("word", "a", (4,)), ("word", "c", (1,))).nodes,
                         (("word", "f", (1, 3)), ("word", "a", (2,)), ("word", "c", (3,)), ("word", "b", ())))
        self.assertEqual(Graph(("word", "f", (2, 1, 3)), ("word", "b", (3,)), ("word", "a", (1,)), ("word", "c", ())).nodes,
                         (("word", "f", (1, 2, 3)), ("word", "a", (2,)), ("word", "b", (3,)), ("word", "c", ())))

    def test_any_numbering(self):
        rng = random.Random(34)
        for nodes in tuples_of_nodes():
            graph = Graph.of(nodes)
            self.assertEqual(graph.nodes, naive_numbered(nodes))
            for _ in range(3):
                self.assertEqual(Graph.of(mixed(rng, nodes)), graph)
            self.assertEqual(Graph.of(graph.nodes), graph)
            self.assertEqual(Graph.of(graph.nodes + (K, ("fun", len(graph)))), graph)

    def test_same_unfolding(self):
        for nodes in tuples_of_nodes()[:60]:
            made = naive_places(Graph.of(nodes).nodes, 5)
            before = naive_places(nodes, 5)
            self.assertEqual({address: naive_look(nodes, way) for address, way in before.items()},
                             {address: naive_look(Graph.of(nodes).nodes, way) for address, way in made.items()})


class Methods(Case):

    def test_needs_and_scopes(self):
        seen = set()
        for nodes in tuples_of_nodes():
            graph = Graph.of(nodes)
            needs = naive_needs(graph.nodes)
            for node in range(len(graph)):
                self.assertEqual(graph.needs(node), tuple(sorted(needs[node])))
                self.assertEqual(graph.innermost(node), naive_innermost(needs, node))
                self.assertEqual(graph.scope(node), naive_scope(needs, node))
                seen.add((len(graph.needs(node)), len(graph.scope(node))))
                for one in needs[node]:
                    for other in needs[node] - {one}:
                        self.assertNotEqual(one in needs[other], other in needs[one])
                for child in children_of(graph[node]):
                    scope = graph.scope(node) + ((node,) if graph[node][0] == "fun" else ())
                    self.assertEqual(graph.scope(child), scope[:len(graph.scope(child))])
        self.assertTrue({(0, 0), (1, 1), (1, 2), (2, 2), (3, 3)} <= seen, seen)

    def test_needs_by_hand(self):
        # fun 0 . fun 1 . fun 2 . pair(f(var 2, var 1), var 0): the functions need those around them.
        graph = Graph(("fun", 1), ("fun", 2), ("fun", 3), ("word", "pair", (4, 7)), ("word", "f", (5, 6)), ("var", 2), ("var", 1),
                      ("var", 0))
        self.assertEqual([graph.needs(node) for node in range(8)], [(), (0,), (0, 1), (0, 1, 2), (1, 2), (2,), (1,), (0,)])
        self.assertEqual([graph.innermost(node) for node in range(8)], [None, 0, 1, 2, 2, 2, 1, 0])
        self.assertEqual([graph.scope(node) for node in range(8)],
                         [(), (0,), (0, 1), (0, 1, 2), (0, 1, 2), (0, 1, 2), (0, 1), (0,)])
        self.assertEqual(graph.functions, (0, 1, 2))

    def test_a_scope_can_have_more_than_the_needs(self):
        graph = graph_of(read("fun a. fun b. pair(fun c. f(b, c), a)"))
        self.assertEqual(graph.nodes, (
            ("fun", 1), ("fun", 2), ("word", "pair", (3, 7)), ("fun", 4), ("word", "f", (5, 6)), ("var", 1), ("var", 3), ("var", 0)))
        self.assertEqual([graph.needs(node) for node in range(8)], [(), (0,), (0, 1), (1,), (1, 3), (1,), (3,), (0,)])
        self.assertEqual([graph.scope(node) for node in range(8)],
                         [(), (0,), (0, 1), (0, 1), (0, 1, 3), (0, 1), (0, 1, 3), (0,)])

    def test_scopes_of_nodes_numbered_in_any_way(self):
        graph = Graph(("word", "f", (1, 4)), ("fun", 2), ("word", "g", (1, 3)), ("var", 1), ("fun", 5), ("var", 4))
        self.assertEqual(graph.scope(3), (1,))
        far = Graph(("fun", 5), K, ("var", 0), ("fun", 4), ("word", "at", (2, 3)), ("fun", 3))
        self.assertEqual(far.nodes, (("fun", 1), ("fun", 2), ("fun", 3), ("word", "at", (4, 2)), ("var", 0)))
        self.assertEqual((far.scope(3), far.needs(3), far.innermost(2), far.is_on_ring(2), far.is_on_ring(0)),
                         ((0,), (0,), 0, True, False))

    def test_parents(self):
        graph = Graph(("word", "f", (1, 1, 0)), ("fun", 2), ("word", "g", (3, 1)), ("var", 1))
        self.assertEqual([graph.parents(node) for node in range(4)],
                         [((0, 2),), ((0, 0), (0, 1), (2, 1)), ((1, 0),), ((2, 0),)])
        self.assertEqual(Graph(K).parents(0), ())
        for nodes in tuples_of_nodes():
            graph = Graph.of(nodes)
            for node in range(len(graph)):
                self.assertEqual(graph.parents(node), tuple(
                    (parent, place) for parent in range(len(graph))
                    for place, child in enumerate(children_of(graph[parent])) if child == node))

    def test_reached_nodes_and_rings(self):
        for nodes in tuples_of_nodes():
            graph = Graph.of(nodes)
            for node in range(len(graph)):
                self.assertEqual(graph.reached(node), tuple(sorted(naive_reached(graph.nodes, node))))
                ring = any(node in naive_reached(graph.nodes, child) for child in children_of(graph[node]))
                self.assertIs(graph.is_on_ring(node), ring)
        graph = Graph(("word", "f", (1, 0)), ("fun", 2), ("var", 1))
        self.assertEqual([graph.is_on_ring(node) for node in range(3)], [True, False, False])
        self.assertEqual([graph.reached(node) for node in range(3)], [(0, 1, 2), (1, 2), (2,)])

    def test_closed_parts(self):
        for nodes in tuples_of_nodes():
            graph = Graph.of(nodes)
            for node in range(len(graph)):
                if graph.needs(node) == ():
                    self.assertEqual(graph.closed_part(node).nodes, naive_numbered(graph.nodes, node))
                else:
                    self.fails(InvalidOperation, graph.closed_part, node)
            self.assertEqual(graph.closed_part(0), graph)
        graph = graph_of(read("let x = f(g(x)) in h(x)"))
        self.assertEqual(graph.closed_part(2).nodes, (("word", "g", (1,)), ("word", "f", (0,))))
        self.assertIs(type(graph.closed_part(2)), Graph)
        self.fails(InvalidOperation, Graph(("fun", 1), ("var", 0)).closed_part, 1)
        self.fails(InvalidOperation, graph_of(read("fun a. f(a)")).closed_part, 1)

    def test_functions_and_texts(self):
        for nodes in tuples_of_nodes():
            graph = Graph.of(nodes)
            functions = tuple(node for node in range(len(graph)) if graph.nodes[node][0] == "fun")
            self.assertEqual(graph.functions, functions)
            self.assertEqual(str(graph), f"graph of {len(graph.nodes)} nodes, {len(functions)} functions")
        self.assertEqual(str(Graph(K)), "graph of 1 nodes, 0 functions")
        self.assertEqual(Graph(K).functions, ())

    def test_items(self):
        for nodes in tuples_of_nodes()[:30]:
            graph = Graph.of(nodes)
            self.assertEqual(len(graph), len(graph.nodes))
            self.assertEqual([graph[node] for node in range(len(graph))], list(graph.nodes))
            self.assertEqual(list(graph), list(graph.nodes))
            self.assertEqual(tuple(node for node in graph), graph.nodes)

    def test_equal_graphs(self):
        for nodes in tuples_of_nodes()[:20]:
            for other in tuples_of_nodes()[:20]:
                same = naive_numbered(nodes) == naive_numbered(other)
                self.assertIs(Graph.of(nodes) == Graph.of(other), same)
                self.assertIs(Graph.of(nodes) != Graph.of(other), not same)
        for value in odd_values() + [(K,), K, Graph(("word", "k", (0,)))]:
            self.assertIs(Graph(K) == value, False)
            self.assertIs(Graph(K) != value, True)
        self.assertIs(Graph(K) == Graph(K), True)
        self.assertIs(Graph(K) != Graph(K, K), False)

    def test_invalid_numbers(self):
        for graph in (graph_of(CROSS), Graph(K)):
            for value in no_numbers(graph):
                wanted = (InvalidNumber, ("value", value))
                for method in (graph.needs, graph.innermost, graph.scope, graph.parents, graph.reached, graph.is_on_ring,
                               graph.closed_part, lambda node: graph[node]):
                    self.fails(wanted, method, value)
        for value in odd_values():
            if type(value) is not int or value not in range(5):
                graph = graph_of(CROSS)
                with self.assertRaises(InvalidNumber) as caught:
                    graph.scope(value)
                self.assertIs(caught.exception.value, value)

    def test_a_graph_never_changes(self):
        graph = graph_of(CROSS)
        before = graph.nodes
        for node in range(5):
            graph.needs(node), graph.scope(node), graph.parents(node), graph.reached(node), graph.is_on_ring(node)
        self.fails((InvalidNumber, ("value", 7)), graph.scope, 7)
        self.fails(InvalidOperation, graph.closed_part, 2)
        self.assertEqual(graph.nodes, before)
        self.assertEqual(graph, graph_of(CROSS))
        with self.assertRaises(TypeError):
            graph[0] = K
        nodes = [("fun", 1), ("var", 0)]
        graph = Graph(*nodes)
        nodes[0] = K
        self.assertEqual(graph.nodes, (("fun", 1), ("var", 0)))
        for result in (graph.nodes, graph.functions, graph.needs(1), graph.scope(1), graph.parents(1), graph.reached(0)):
            self.assertIs(type(result), tuple)

    def test_everything_stands_in_the_class(self):
        self.assertEqual(Graph.__module__, "sharedlets.graphs.graphs")
        for name in "of nodes functions needs innermost scope parents reached is_on_ring closed_part".split():
            self.assertIn(name, vars(Graph))
        for name in ("__getitem__", "__len__", "__iter__", "__eq__", "__str__"):
            self.assertIn(name, vars(Graph))
        self.assertIsInstance(vars(Graph)["of"], classmethod)
        self.assertTrue(inspect.isdatadescriptor(vars(Graph)["nodes"]))


class Examples(Case):

    def test_examples_of_the_document(self):
        cross = graph_of(CROSS)
        self.assertEqual(
            [cross.nodes, [cross.scope(node) for node in range(5)], cross.parents(2), str(cross)],
            [(('fun', 1), ('word', 'at', (2, 3)), ('var', 0), ('fun', 4), ('word', 'at', (2, 0))),
             [(), (0,), (0,), (0,), (0,)], ((1, 0), (4, 0)), 'graph of 5 nodes, 2 functions'])
        far = Graph(("fun", 5), ("word", "k", ()), ("var", 0), ("fun", 4), ("word", "at", (2, 3)), ("fun", 3))
        self.assertEqual(
            [far.nodes, far.scope(3), far.needs(3), far.innermost(2), far.is_on_ring(2), far.is_on_ring(0)],
            [(('fun', 1), ('fun', 2), ('fun', 3), ('word', 'at', (4, 2)), ('var', 0)), (0,), (0,), 0, True, False])


if __name__ == "__main__":
    unittest.main()
