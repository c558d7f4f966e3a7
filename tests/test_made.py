"""Tests of the graphs of terms and of written forms: [0.10], [0.14], [4.1], [4.2]."""

import random
import unittest

from sharedlets.errors import InvalidGraph, InvalidOperation, InvalidTerm, TooMany
from sharedlets.graphs import made
from sharedlets.graphs.graphs import Graph
from sharedlets.graphs.made import graph_of, node_of, term_of
from sharedlets.terms.terms import is_term, let_of
from sharedlets.terms.texts import read, read_open, write
from tests.helper import (
    APART, CROSS, LONG, NEST, ROLL, TEXTS, Case, fun_row, letters, mixed, naive_at, naive_binder, naive_head, naive_inner,
    naive_is_term, naive_look, naive_paths, naive_places, odd_values, random_graph_nodes, random_terms, term_looks,
)

K = ("word", "k", ())


def all_terms():
    return [read(text) for text in TEXTS] + random_terms(random.Random(41), 80)


def graphs():
    rng = random.Random(42)
    rows = random_graph_nodes(rng, 80, 6) + random_graph_nodes(rng, 40, 12, 3) + random_graph_nodes(rng, 12, 45, 8)
    return [Graph.of(nodes) for nodes in rows]


def many_nodes(many):
    """A term whose graph has so many nodes."""
    term = ("word", "k", ())
    pairs = {letters("q", at): ("word", "f", (("name", letters("q", at + 1)),)) for at in range(many - 1)}
    pairs[letters("q", many - 1)] = term
    if many <= 100:
        return let_of(("name", "qa"), pairs)
    inner = tuple(pairs.items())
    return ("let", inner[100:], ("let", inner[:100], ("name", "qa")))


def naive_nodes(term):
    """The nodes of the graph of a term in the order of the first walk, each one by a path, or a path and "var"."""
    order = []

    def thing(path):
        path = naive_head(term, path)
        return (naive_binder(term, path)[0], "var") if naive_at(term, path)[0] == "name" else (path, "at")

    def walk(one):
        if one not in order:
            order.append(one)
            path, kind = one
            if kind == "at":
                for at in range(len(naive_inner(naive_at(term, path)))):
                    walk(thing(path + (at,)))

    walk(thing(()))
    return order, thing


class GraphsOfTerms(Case):

    def test_by_hand(self):
        rows = {
            "k()": (K,),
            "fun a. a": (("fun", 1), ("var", 0)),
            "fun a. fun b. a": (("fun", 1), ("fun", 2), ("var", 0)),
            "fun a. fun a. a": (("fun", 1), ("fun", 2), ("var", 1)),
            "let x = x() in f(x, x)": (("word", "f", (1, 1)), ("word", "x", ())),
            "f(k(), k())": (("word", "f", (1, 2)), K, K),
            "let x = f(x) in x": (("word", "f", (0,)),),
            "let x = y; y = z; z = f(x, y, z) in x": (("word", "f", (0, 0, 0)),),
            "fun a. let b = a; c = b in f(a, b, c)": (("fun", 1), ("word", "f", (2, 2, 2)), ("var", 0)),
            "let g = fun a. a in pair(g, fun a. a)": (
                ("word", "pair", (1, 3)), ("fun", 2), ("var", 1), ("fun", 4), ("var", 3)),
            "fun a. let g = fun b. at(a, g) in g": (("fun", 1), ("fun", 2), ("word", "at", (3, 1)), ("var", 0)),
            "let x = k() in let x = f(x) in x": (("word", "f", (0,)),),
            "let u = fun a. k(); x = f(x) in x": (("word", "f", (0,)),),
            "fun a. let u = f(a) in k()": (("fun", 1), K),
            "f(let x = g(y); y = h(x) in x, let y = k() in y)": (
                ("word", "f", (1, 3)), ("word", "g", (2,)), ("word", "h", (1,)), K),
        }
        for text, nodes in rows.items():
            graph = graph_of(read(text))
            self.assertIs(type(graph), Graph)
            self.assertEqual(graph.nodes, nodes, text)

    def test_unfoldings(self):
        for term in all_terms():
            graph = graph_of(term)
            places = naive_places(graph.nodes, 5)
            looks = {address: naive_look(graph.nodes, way) for address, way in places.items()}
            self.assertEqual(looks, term_looks(term, 5), write(term))

    def test_nodes(self):
        for term in all_terms():
            order, _ = naive_nodes(term)
            self.assertEqual(len(graph_of(term)), len(order))

    def test_names_do_not_matter(self):
        self.assertEqual(graph_of(read("let g = fun b. at(b, g) in g")), graph_of(read("let h = fun g. at(g, h) in h")))
        self.assertEqual(graph_of(read("let a = f(b); b = g(a) in a")), graph_of(read("let z = f(y); y = g(z) in z")))
        self.assertNotEqual(graph_of(NEST), graph_of(CROSS))

    def test_100_nodes(self):
        for many in (1, 2, 99, 100):
            self.assertEqual(len(graph_of(many_nodes(many))), many)
        for many in (101, 150, 190):
            self.assertTrue(is_term(many_nodes(many)))
            self.fails((TooMany, ("limit", 100)), graph_of, many_nodes(many))
        for many in (98, 99, 100, 118):
            term = fun_row(many, ("name", "a"))
            if many <= 99:
                self.assertEqual(len(graph_of(term)), many + 1)
            else:
                self.fails((TooMany, ("limit", 100)), graph_of, term)
        unused = ("let", (("x", ("word", "f", (many_nodes(90), many_nodes(90)))),), K)
        self.assertEqual(graph_of(unused).nodes, (K,))

    def test_errors(self):
        wrong = [value for value in odd_values() if not naive_is_term(value)]
        wrong += [read_open("x"), read_open("let x = x in k()"), read_open("fun a. f(b)"), graph_of(ROLL)]
        for value in wrong:
            self.fails(InvalidTerm, graph_of, value)
            self.fails(InvalidTerm, node_of, value, ())
            self.fails(InvalidTerm, node_of, value, None)


class WrittenForms(Case):

    def test_by_hand(self):
        rows = {
            "k()": "k()",
            "fun a. a": "fun va. va",
            "fun a. fun b. pair(b, a)": "fun va. fun vb. pair(vb, va)",
            "let x = f(g(x)) in x": "let da = f(g(da)) in da",
            "h(let x = f(g(x)) in x)": "let db = f(g(db)) in h(db)",
            "f(k(), k())": "f(k(), k())",
            "let x = k() in f(x, x)": "let db = k() in f(db, db)",
            "let x = k(); y = f(x, x) in pair(y, g(y, x))": "let db = f(dc, dc); dc = k() in pair(db, g(db, dc))",
            "fun a. let g = fun b. at(a, g) in g": "fun va. let db = fun vb. at(va, db) in db",
            "let g = fun a. at(a, fun b. at(a, g)) in g": "let da = fun va. at(va, fun vd. at(va, da)) in da",
            "let g = fun a. f(g, fun b. h(g, b)) in g": "let da = fun va. f(da, fun vc. h(da, vc)) in da",
            "fun a. let x = f(a) in pair(x, x)": "fun va. let dc = f(va) in pair(dc, dc)",
            "fun a. let x = k() in pair(x, x)": "let dc = k() in fun va. pair(dc, dc)",
            "fun a. fun b. let x = f(a) in pair(x, g(b, x))": (
                "fun va. let dd = f(va) in fun vb. pair(dd, g(vb, dd))"),
            "fun a. let x = fun b. f(a, b); y = g(x) in pair(x, y)": "fun va. let dc = fun vc. f(va, vc) in pair(dc, g(dc))",
            "fun a. fun b. let x = f(a); y = f(b) in pair(pair(x, y), x, y)": (
                "fun va. let de = f(va) in fun vb. let dg = f(vb) in pair(pair(de, dg), de, dg)"),
        }
        for text, wanted in rows.items():
            self.assertEqual(write(term_of(graph_of(read(text)))), wanted)

    def test_blocks_ascend_by_nodes(self):
        names = [letters("d", at) for at in range(1, 60)]
        nodes = tuple(("word", "f", (at, at + 1)) for at in range(1, 60)) + (K,)
        graph = Graph.of((("word", "g", (1,)),) + nodes[:-1] + (K,))
        term = term_of(graph)
        self.assertEqual(term[0], "let")
        self.assertEqual([name for name, _ in term[1]], names)
        self.assertEqual(names[23:27], ["dy", "dz", "daa", "dab"])
        self.assertEqual(graph_of(term), graph)

    def test_names_of_100_nodes(self):
        graph = Graph.of(tuple(("fun", at + 1) for at in range(99)) + (("var", 98),))
        text = write(term_of(graph))
        self.assertTrue(text.startswith("fun va. fun vb. "))
        self.assertIn("fun vz. fun vaa. fun vab. ", text)
        self.assertIn("fun vaz. fun vba. ", text)
        self.assertTrue(text.endswith("fun vct. fun vcu. vcu"))
        self.assertEqual(graph_of(term_of(graph)), graph)

    def test_graph_of_the_written_form(self):
        for graph in graphs() + [graph_of(term) for term in all_terms()]:
            term = term_of(graph)
            self.assertTrue(naive_is_term(term))
            self.assertEqual(graph_of(term), graph)
            self.assertEqual(term_of(graph_of(term)), term)
            self.assertEqual(read(write(term)), term)
            self.check_written_form(graph, term)

    def check_written_form(self, graph, term):
        """Each word and function stands where [4.1] tells it, under its name."""
        uses = [len(graph.parents(node)) + (node == 0) for node in range(len(graph))]
        defined = [node for node in range(len(graph)) if uses[node] > 1 and graph[node][0] != "var"]
        order, _ = naive_nodes(term)
        for node, (path, kind) in enumerate(order):
            around = path[:-1] if path else None
            is_defined = path != () and naive_at(term, around)[0] == "let" and path[-1] < len(naive_at(term, around)[1])
            self.assertEqual(kind == "at" and is_defined, node in defined)
            if kind == "at" and is_defined:
                self.assertEqual(naive_at(term, around)[1][path[-1]][0], letters("d", node))
                scope = graph.scope(node)
                if scope == ():
                    self.assertEqual(around, ())
                else:
                    self.assertEqual(around, order[scope[-1]][0] + (0,))
            if graph[node][0] == "fun":
                self.assertEqual(naive_at(term, path)[1], letters("v", node))
        for path in naive_paths(term):
            if naive_at(term, path)[0] == "let":
                numbers = [node for node in range(len(graph)) for name, _ in naive_at(term, path)[1] if name == letters("d", node)]
                self.assertEqual([name for name, _ in naive_at(term, path)[1]], [letters("d", node) for node in numbers])

    def test_written_forms_are_equal_just_for_equal_graphs(self):
        rows = graphs()[:40]
        for graph in rows:
            for other in rows:
                self.assertEqual(term_of(graph) == term_of(other), graph.nodes == other.nodes)

    def test_numbering_does_not_matter(self):
        rng = random.Random(43)
        for graph in graphs()[:40]:
            self.assertEqual(term_of(Graph.of(mixed(rng, graph.nodes))), term_of(graph))

    def test_errors(self):
        for value in odd_values() + [ROLL, graph_of(ROLL).nodes, list(graph_of(ROLL)), "graph of 2 nodes, 0 functions"]:
            if not isinstance(value, Graph):
                self.fails(InvalidGraph, term_of, value)


class NodesOfPaths(Case):

    def test_by_hand(self):
        kept = read("let x = k(); y = x; z = m(z) in pair(y, fun a. x)")
        wanted = {(): 0, (0,): 1, (1,): 1, (2,): None, (2, 0): None, (3,): 0, (3, 0): 1, (3, 1): 2, (3, 1, 0): 1}
        self.assertEqual({path: node_of(kept, path) for path in naive_paths(kept)}, wanted)

    def test_uses_of_variables(self):
        term = read("fun a. let u = a; v = f(a, u); w = fun b. b in pair(a, fun c. k())")
        graph = graph_of(term)
        self.assertEqual(graph.nodes, (("fun", 1), ("word", "pair", (2, 3)), ("var", 0), ("fun", 4), K))
        wanted = {
            (): 0, (0,): 1, (0, 0): 2, (0, 1): None, (0, 1, 0): 2, (0, 1, 1): 2, (0, 2): None, (0, 2, 0): None, (0, 3): 1,
            (0, 3, 0): 2, (0, 3, 1): 3, (0, 3, 1, 0): 4,
        }
        self.assertEqual({path: node_of(term, path) for path in naive_paths(term)}, wanted)
        unused = read("fun a. let u = f(a) in k()")
        self.assertEqual([node_of(unused, path) for path in ((), (0,), (0, 0), (0, 0, 0), (0, 1))], [0, 1, None, None, 1])

    def test_any_path(self):
        for term in all_terms():
            order, thing = naive_nodes(term)
            for path in naive_paths(term):
                wanted = order.index(thing(path)) if thing(path) in order else None
                self.assertEqual(node_of(term, path), wanted)

    def test_errors(self):
        wrong = [(2,), (0, 0, 0, 0), (1, 0), [0], (True,), (False,), (0, False), (-1,), None, "0"]
        for path in wrong + odd_values():
            is_plain = isinstance(path, tuple) and all(type(step) is int for step in path)
            if not is_plain or path not in naive_paths(ROLL):
                self.fails(InvalidOperation, node_of, ROLL, path)

    def test_too_many_nodes(self):
        for path in ((), (0,), (0, 0), (40, 0)):
            self.fails((TooMany, ("limit", 100)), node_of, many_nodes(150), path)
        self.fails(InvalidOperation, node_of, many_nodes(150), (0, 0, 0))
        self.fails(InvalidOperation, node_of, many_nodes(150), None)
        self.assertEqual(many_nodes(100)[1][99][0], "qz")
        self.assertEqual(node_of(many_nodes(100), (99,)), 25)


class Conventions(Case):

    def test_everything_stands_in_its_module(self):
        for name in ("graph_of", "term_of", "node_of"):
            self.assertEqual(getattr(made, name).__module__, "sharedlets.graphs.made")

    def test_equal_calls_have_equal_results(self):
        for term in all_terms()[:30]:
            self.assertEqual(graph_of(term), graph_of(term))
            self.assertEqual(term_of(graph_of(term)), term_of(graph_of(term)))


class Examples(Case):

    def test_examples_of_the_document(self):
        self.assertEqual(
            [graph_of(ROLL).nodes, len(graph_of(LONG)), write(term_of(graph_of(ROLL)))],
            [(('word', 'f', (1,)), ('word', 'g', (0,))), 4, 'let da = f(g(da)) in da'])
        self.assertEqual(
            [write(term_of(graph_of(APART))), write(term_of(graph_of(CROSS)))],
            ['fun va. let db = fun vb. at(va, db) in db', 'let da = fun va. at(va, fun vd. at(va, da)) in da'])
        kept = read("let x = k(); y = x; z = m(z) in pair(y, fun a. x)")
        self.assertEqual(
            [graph_of(kept).nodes, node_of(kept, (1,)), node_of(kept, (2,)), node_of(kept, (3, 1, 0))],
            [(('word', 'pair', (1, 2)), ('word', 'k', ()), ('fun', 1)), 1, None, 1])


if __name__ == "__main__":
    unittest.main()
