"""Tests of parts of graphs: [0.20], [12.1], [12.2], [12.3]."""

import itertools
import random
import unittest

from sharedlets.alike.matchings import are_alike
from sharedlets.errors import InvalidGraph, InvalidNumber, InvalidOperation, TooMany
from sharedlets.graphs.graphs import Graph
from sharedlets.graphs.made import graph_of, term_of
from sharedlets.least.least import classes, is_least, least
from sharedlets.parts import places
from sharedlets.parts.places import opened, part_classes, places_of, same_part
from sharedlets.terms.texts import read
from tests.helper import (
    APART, CROSS, LONG, NEST, ROLL, Case, check_errors, children_of, graph_pairs, letters, naive_graph, naive_look, naive_needs, naive_scopes,
    naive_way, nearest, rich_terms, ring, wrong_graphs, wrong_numbers,
)

K = ("word", "k", ())

MORE = (
    "fun a. pair(k(a), fun b. k(b))",
    "let g = fun a. pair(k(a), g) in g",
    "fun a. fun b. pair(f(a, b), f(b, a))",
    "fun a. fun b. pair(f(a, b), fun c. f(a, c))",
    "fun a. fun b. let g = f(a, b, h); h = f(b, a, g) in g",
    "pair(fun a. fun b. f(a, b), fun a. g(fun b. f(a, b)))",
    "fun a. pair(fun b. f(a, b), fun c. f(c, a))",
    "fun a. pair(fun a. f(a), fun b. f(a))",
    "let g = fun a. pair(a, fun b. pair(b, fun c. pair(a, g))) in g",
    "fun a. fun b. fun c. tri(f(a, b, c), f(c, b, a), f(b, a, a))",
    "pair(fun a. f(f(a)), fun a. f(a))",
    "fun a. let g = f(a, g) in pair(g, fun b. let h = f(b, f(b, h)) in h)",
    "let g = fun a. let h = fun b. tri(a, b, h) in pair(h, g) in g",
    "va(fun a. fun b. pair(a, vc(b)))",
    "fun va. pair(va(), va(va))",
)


def some_graphs(seed, most=25):
    found = [graph_of(read(text)) for text in MORE] + [graph_of(term) for term in (ROLL, LONG, NEST, CROSS, APART)]
    found += [Graph.of(nodes) for pair in graph_pairs(seed, 15, 25) for nodes in pair if len(nodes) <= most]
    return found + [graph_of(term) for term in rich_terms(random.Random(seed), 15, 6, most)]


def naive_change(nodes, needs, node, other):
    """The change of functions that makes the parts of two nodes equal, or None: both are gone through at once.

    The functions that were entered on the way are pairs (function, function), newest last.
    """
    change, seen = {}, set()
    waiting = [(node, other, ())]
    while waiting:
        one, two, entered = waiting.pop()
        if (one, two, entered) in seen:
            continue
        seen.add((one, two, entered))
        first, second = nodes[one], nodes[two]
        if first[0] != second[0] or len(children_of(first)) != len(children_of(second)):
            return None
        if first[0] == "word" and first[1] != second[1]:
            return None
        if first[0] == "var":
            left, right = [max([at for at, pair in enumerate(entered) if pair[side] == function], default=None)
                           for side, function in ((0, first[1]), (1, second[1]))]
            if left != right or (left is None and change.setdefault(first[1], second[1]) != second[1]):
                return None
            continue
        inner = entered + ((one, two),) if first[0] == "fun" else entered
        # Only the newest copy of each function counts.
        inner = tuple(pair for at, pair in enumerate(inner) if any(
            all(later[side] != pair[side] for later in inner[at + 1:]) for side in (0, 1)))
        waiting += [(left, right, inner) for left, right in zip(children_of(first), children_of(second))]
    if set(change) != needs[node] or set(change.values()) != needs[other] or len(set(change.values())) < len(change):
        return None
    return change


def first_ways(nodes):
    """A dict from the nodes to a way that leads to each one from the root."""
    ways = {0: (0,)}
    waiting = [0]
    while waiting:
        node = waiting.pop(0)
        for child in children_of(nodes[node]):
            if child not in ways:
                ways[child] = ways[node] + (child,)
                waiting.append(child)
    return ways


def part_look(nodes, way, start, words):
    """The look of a place with a way, if the part begins at the place with so many steps; words for open variables."""
    node = nodes[way[-1]]
    if node[0] == "var" and nearest(way, node[1]) < start:
        return ("word", words[node[1]], 0)
    return naive_look(nodes, way)


def naive_words(nodes, scope):
    """A dict from the functions of a scope to the words for their open variables."""
    there = {node[1] for node in nodes if node[0] == "word"}
    names = ["v" + end for end in "abcdefghijklmnopqrstuvwxyz"] + [letters("v", at) for at in range(26, 200)]
    return dict(zip(scope, [name for name in names if name not in there]))


class SameParts(Case):

    def test_against_both_parts(self):
        kinds = [0, 0, 0]
        for graph in some_graphs(141, 16):
            needs = naive_needs(graph.nodes)
            for node, other in itertools.product(range(len(graph)), repeat=2):
                wanted = naive_change(graph.nodes, needs, node, other)
                found = same_part(graph, node, other)
                self.assertEqual(found, None if wanted is None else tuple(sorted(wanted.items())))
                if node != other and wanted is not None:
                    kinds[min(len(wanted), 2)] += 1
        self.assertGreater(min(kinds), 10)

    def test_classes_against_all_pairs(self):
        more = 0
        for graph in some_graphs(142):
            parts = part_classes(graph)
            self.assertEqual(sorted(node for part in parts for node in part), list(range(len(graph))))
            self.assertEqual(list(parts), sorted(tuple(sorted(part)) for part in parts))
            number = {node: at for at, part in enumerate(parts) for node in part}
            for node, other in itertools.combinations(range(len(graph)), 2):
                self.assertIs(same_part(graph, node, other) is not None, number[node] == number[other])
            # Matching nodes have the same part; nodes that need nothing have the same part exactly if they match.
            for part in classes(graph):
                self.assertEqual(len({number[node] for node in part}), 1)
            closed = [node for node in range(len(graph)) if graph.needs(node) == ()]
            matching = {node: part for part in classes(graph) for node in part}
            for node, other in itertools.combinations(closed, 2):
                self.assertIs(number[node] == number[other], matching[node] == matching[other])
            more += len(parts) < len(classes(graph))
        self.assertGreater(more, 15)

    def test_by_hand(self):
        two = graph_of(read("fun a. fun b. pair(f(a, b), f(b, a))"))
        self.assertEqual(two.nodes[2:], (("word", "pair", (3, 6)), ("word", "f", (4, 5)), ("var", 0), ("var", 1), ("word", "f", (5, 4))))
        self.assertEqual(same_part(two, 3, 6), ((0, 1), (1, 0)))
        self.assertEqual(same_part(two, 3, 3), ((0, 0), (1, 1)))
        self.assertEqual(same_part(two, 4, 5), ((0, 1),))
        one = graph_of(read("fun a. fun b. pair(f(a, b), f(b, b))"))
        self.assertIsNone(same_part(one, 3, 6))
        self.assertIsNone(same_part(one, 6, 3))
        cross, nest = graph_of(CROSS), graph_of(NEST)
        self.assertEqual([part_classes(cross), part_classes(nest)], [((0,), (1,), (2,), (3,), (4,)), ((0,), (1,), (2,))])
        self.assertEqual(same_part(graph_of(LONG), 0, 2), ())

    def test_a_function_that_stands_above_and_below(self):
        """Its variables belong to the new copy below it, and to the old one elsewhere."""
        graph = graph_of(read("let g = fun a. pair(k(a), g) in g"))
        self.assertEqual(same_part(graph, 1, 1), ((0, 0),))
        once = graph_of(read("let g = fun a. pair(k(a), g) in fun b. pair(k(b), g)"))
        inner = once.nodes[once.nodes[4][1]]
        self.assertEqual(inner[1], "pair")
        self.assertEqual(same_part(once, 1, once.nodes[4][1]), ((0, 4),))

    def test_least_graphs_with_several_nodes_of_one_part(self):
        """[0.20], [12.3]: equal open parts are not always one node."""
        graph = graph_of(read("pair(fun a. fun b. f(a, b), fun a. g(fun b. f(a, b)))"))
        self.assertIs(is_least(graph), True)
        sizes = [len(part) for part in part_classes(graph)]
        self.assertEqual([sizes.count(2), sum(sizes) - len(sizes) > 2], [2, True])


class Places(Case):

    def test_places_of(self):
        found = [0, 0]
        graphs = some_graphs(143, 16)
        for graph, other in itertools.product(graphs[:25], graphs[::5]):
            wanted = tuple(node for node in range(len(graph)) if graph.needs(node) == () and are_alike(graph.closed_part(node), other))
            self.assertEqual(places_of(graph, other), wanted)
            found[len(wanted) > 0] += 1
        for graph in graphs:
            for node in range(len(graph)):
                if graph.needs(node) == ():
                    closed = least(graph.closed_part(node))
                    self.assertEqual(places_of(graph, closed), tuple(
                        one for one in range(len(graph)) if graph.needs(one) == () and same_part(graph, node, one) == ()))
                    self.assertIn(node, places_of(graph, closed))
        self.assertGreater(min(found), 20)

    def test_nodes_that_need_functions_are_not_there(self):
        self.assertEqual(places_of(graph_of(APART), graph_of(read("fun x. k(x)"))), ())
        graph = graph_of(read("fun a. pair(k(a), fun b. k(b))"))
        self.assertEqual(places_of(graph, graph_of(read("fun x. k(x)"))), (4,))
        self.assertEqual(places_of(graph_of(LONG), graph_of(ROLL)), (0, 2))
        self.assertEqual(places_of(graph_of(LONG), graph_of(read("let x = g(f(x)) in x"))), (1, 3))
        self.assertEqual(places_of(Graph.of(ring(100)), Graph.of(ring(99))), tuple(range(100)))
        self.assertEqual(places_of(Graph.of(ring(100, (99,))), Graph.of(ring(99, (98,)))), ())


class Opened(Case):

    def check(self, graph, node, depth=7, most=3000):
        """Compare the opened part with the unfolding below a place of the node; return the new graph."""
        made = opened(graph, node)
        self.assertIs(is_least(made), True)
        way = first_ways(graph.nodes)[node]
        words = naive_words(graph.nodes, naive_scopes(graph.nodes)[node])
        level = [(way, (0,))]
        for _ in range(depth):
            further = []
            for inner, outer in level:
                self.assertEqual(part_look(graph.nodes, inner, len(way) - 1, words), naive_look(made.nodes, outer))
                pairs = zip(children_of(graph[inner[-1]]), children_of(made[outer[-1]]))
                further += [(inner + (one,), outer + (two,)) for one, two in pairs]
            level = further[:most]
        return made

    def test_against_the_unfolding(self):
        kinds = [0, 0, 0]
        for graph in some_graphs(144, 18):
            for node in range(len(graph)):
                self.check(graph, node)
                kinds[min(len(graph.needs(node)), 2)] += 1
                if graph.needs(node) == ():
                    self.assertEqual(opened(graph, node), least(graph.closed_part(node)))
        self.assertGreater(min(kinds), 60)

    def test_by_hand(self):
        for text, node, wanted in (
            ("fun a. pair(k(a), fun b. k(b))", 1, "pair(k(va()), fun b. k(b))"),
            ("fun a. pair(k(a), fun b. k(b))", 3, "va()"),
            ("fun a. fun b. f(a, b)", 2, "f(va(), vb())"),
            ("fun a. fun b. f(a, b)", 1, "fun b. f(va(), b)"),
            ("fun a. fun b. f(a, fun c. g(b))", 4, "fun c. g(vb())"),
            ("fun a. fun b. f(a, fun c. g(a))", 4, "fun c. g(va())"),
            ("fun a. fun b. f(a, g(b))", 4, "g(vb())"),
            ("va(fun a. fun b. pair(a, vc(b)))", 3, "pair(vb(), vc(vd()))"),
            ("va(fun a. fun b. pair(a, vc(b)))", 5, "vc(vd())"),
            ("vb(fun a. fun b. pair(a, c(b)))", 3, "pair(va(), c(vc()))"),
            ("let g = fun a. pair(k(a), g) in g", 1, "let g = fun a. pair(k(a), g) in pair(k(va()), g)"),
            ("let g = fun a. fun b. tri(a, b, g) in g", 2, "let g = fun a. fun b. tri(a, b, g) in tri(va(), vb(), g)"),
            ("let g = fun a. let h = fun b. tri(a, b, h) in pair(h, g) in g", 2, "let h = fun b. tri(va(), b, h) in h"),
            ("let g = fun a. let h = fun b. tri(a, b, h) in pair(h, g) in g", 3, "let h = fun b. tri(va(), b, h) in tri(va(), vb(), h)"),
        ):
            graph = graph_of(read(text))
            self.assertEqual(opened(graph, node), least(graph_of(read(wanted))), (text, node))

    def test_words_that_are_there(self):
        """Words of the graph are left out, also such as are not in the part, and such as have children."""
        graph = graph_of(read("va(vb(fun a. fun b. fun c. tri(a, b, c)), fun x. vd(x))"))
        node = [at for at, one in enumerate(graph) if one[0] == "word" and one[1] == "tri"][0]
        self.assertEqual(opened(graph, node), graph_of(read("tri(vc(), ve(), vf())")))
        words = " ".join(f"v{end}(" for end in "abcdefghijklmnopqrstuvwxyz").replace(" ", "")
        far = graph_of(read(f"{words}fun a. fun b. pair(a, b){')' * 26}"))
        self.assertEqual(opened(far, 28).nodes, (("word", "pair", (1, 2)), ("word", "vaa", ()), ("word", "vab", ())))

    def test_scopes_that_are_not_needed(self):
        """A word for each function in the scope, so that of the second one is vb even where the first is not needed."""
        graph = graph_of(read("fun a. fun b. pair(g(b), h(a))"))
        self.assertEqual([graph.scope(3), graph.needs(3)], [(0, 1), (1,)])
        self.assertEqual(opened(graph, 3), graph_of(read("g(vb())")))

    def test_large_parts(self):
        """Each function stands above, and again below: the part has nodes for both."""
        for many in (10, 24, 25, 33):
            nodes = [("fun", at + 1) for at in range(many)]
            nodes += [("word", "at", (2 * many + at, many + at + 1 if at + 1 < many else 0)) for at in range(many)]
            nodes += [("var", at) for at in range(many)]
            graph = Graph.of(tuple(nodes))
            self.assertEqual(len(opened(graph, 0)), 3 * many)
            at = many
            # The row of words with the words for open variables stands ahead of the whole graph.
            size = 3 * many + 2 * many
            if size > 100:
                self.fails((TooMany, ("limit", 100)), opened, graph, at)
            else:
                self.assertEqual(len(self.check(graph, at)), size)

    def test_too_many_nodes(self):
        # So many words with one function above them, and the whole again below them.
        for many in (32, 33, 48, 49, 97):
            row = [("word", letters("w", at), (at + 2, many + 1)) for at in range(many - 1)]
            nodes = (("fun", 1), *row, ("word", "last", (0, many + 1)), ("var", 0))
            graph = Graph.of(nodes)
            self.assertEqual(len(graph), many + 2)
            wanted = 2 * many + 3
            if wanted > 100:
                self.fails((TooMany, ("limit", 100)), opened, graph, 1)
            else:
                self.assertEqual(len(self.check(graph, 1)), wanted)

    def test_rings_and_rows(self):
        whole = Graph.of(ring(100))
        self.assertEqual([len(opened(whole, 0)), opened(whole, 99), part_classes(whole)], [1, opened(whole, 0), (tuple(range(100)),)])
        self.assertEqual(same_part(whole, 3, 77), ())
        odd = Graph.of(ring(100, (0,)))
        self.assertEqual([len(opened(odd, 50)), len(part_classes(odd)), same_part(odd, 3, 77)], [100, 100, None])
        row = graph_of(read("fun a. " * 90 + "f(a)"))
        self.assertEqual(opened(row, 90), graph_of(read("f(va())")))
        self.assertEqual(len(part_classes(row)), 92)


class Errors(Case):

    def test_errors(self):
        graphs = ([graph_of(APART)], wrong_graphs())
        numbers = ([0], wrong_numbers(4))
        check_errors(self, same_part, graphs, numbers, numbers)
        check_errors(self, part_classes, graphs)
        check_errors(self, places_of, graphs, graphs)
        check_errors(self, opened, graphs, numbers)
        self.fails(InvalidGraph, places_of, None, None)
        self.fails((InvalidNumber, ("value", 4)), opened, graph_of(APART), 4)
        self.fails(InvalidOperation, graph_of(APART).closed_part, 2)

    def test_everything_stands_in_its_module(self):
        for name in "same_part part_classes places_of opened".split():
            self.assertEqual(getattr(places, name).__module__, "sharedlets.parts.places")


class Examples(Case):

    def test_examples_of_the_document(self):
        graph = graph_of(read("fun a. pair(k(a), fun b. k(b))"))
        self.assertEqual(
            [same_part(graph, 2, 5), part_classes(graph), classes(graph) == part_classes(graph)],
            [((0, 4),), ((0,), (1,), (2, 5), (3, 6), (4,)), False])
        self.assertEqual(
            [places_of(graph, graph_of(read("fun x. k(x)"))), term_of(opened(graph, 2)) == read("k(va())")], [(4,), True])
        turned = graph_of(read("let g = fun a. pair(k(a), g) in g"))
        self.assertEqual(
            [turned.nodes[1], len(opened(turned, 1)), opened(turned, 1).nodes[0]],
            [('word', 'pair', (2, 0)), 7, ('word', 'pair', (1, 3))])

    def test_ways(self):
        self.assertEqual(naive_way(graph_of(CROSS).nodes, (0, 1)), first_ways(graph_of(CROSS).nodes)[3])
        self.assertEqual(naive_graph(ROLL), graph_of(ROLL).nodes)


if __name__ == "__main__":
    unittest.main()
