"""Tests of stores: [0.2], [0.19], [0.21], [20.1], [20.2]."""

import random
import unittest

from sharedlets.errors import InvalidEdit, NothingToUndo, TooMany, UnknownName
from sharedlets.graphs.graphs import Graph
from sharedlets.graphs.made import graph_of
from sharedlets.store.store import MAX_KEPT, MAX_PROGRAMS, MAX_STORED, Store
from sharedlets.terms.texts import read
from tests.helper import (
    APART, CROSS, LONG, NEST, ROLL, TEXTS, Case, alike_nodes, check_errors, deep_term, exchanged, long_graph, naive_graph, naive_is_name,
    naive_is_term, naive_needs, naive_numbered, naive_reached, naive_store, odd_values, random_terms, rich_terms, ring, small_values, wrong_graphs, wrong_numbers,
)

K = ("word", "k", ())


def some_programs(seed):
    """Terms and graphs, many of them alike, or with common parts."""
    rng = random.Random(seed)
    found = [read(text) for text in TEXTS] + [term for term in random_terms(rng, 12, 4) + rich_terms(rng, 10, 5, 20)]
    found += [Graph.of(nodes) for pair in alike_nodes(rng, 8, 14) for nodes in pair]
    found += [graph_of(ROLL), graph_of(read("g(let x = f(g(x)) in x)")), graph_of(read("pair(fun a. k(a), fun b. k(b))"))]
    return [program for program in found if len(nodes_of(program)) <= 16]


def nodes_of(program):
    return program.nodes if isinstance(program, Graph) else naive_graph(program)


class Model:
    """What a store has to be, kept in the simplest way: each state is a dict from names to nodes of least graphs."""

    def __init__(self):
        self.now, self.done, self.undone, self.kept, self.told = {}, [], [], 100, []

    def go(self, programs):
        gone = [("gone", name) for name in self.now if name not in programs]
        new = [("new", name) for name in programs if name not in self.now]
        other = [("other", name) for name in programs if name in self.now and programs[name] != self.now[name]]
        self.told = sorted(gone + new + other)
        self.now = programs
        self.done = self.done[max(0, len(self.done) - self.kept):]
        return len(self.done)

    def do(self, edits):
        """The number of steps, or None if an edit is refused."""
        programs = dict(self.now)
        for kind, name, *rest in edits:
            if kind == "put":
                programs[name] = least_of(rest[0])
            elif name not in programs or (kind == "rename" and rest[0] in programs):
                return None
            elif kind == "drop":
                del programs[name]
            else:
                programs[rest[0]] = programs.pop(name)
        if edits:
            self.done, self.undone = self.done + [self.now], []
        return self.go(programs)

    def undo(self, many):
        if many > len(self.done):
            return None
        before = dict(self.now)
        programs = before
        for _ in range(many):
            self.undone.append(programs)
            programs = self.done.pop()
        return self.go(programs)

    def redo(self, many):
        if many > len(self.undone):
            return None
        programs = self.now
        for _ in range(many):
            self.done.append(programs)
            programs = self.undone.pop()
        return self.go(programs)


LEAST = {}


def least_of(program):
    """The nodes of the least graph of a program, worked out slowly."""
    nodes = nodes_of(program)
    if nodes not in LEAST:
        LEAST[nodes] = naive_store({"x": nodes})[0]
    return LEAST[nodes]


class Examples(Case):

    def test_edits(self):
        store = Store()
        self.assertEqual(store.do(("put", "b", ROLL), ("put", "a", LONG)), 1)
        self.assertEqual(store.nodes, (("word", "f", (1,)), ("word", "g", (0,))))
        self.assertEqual(store.roots, {"a": 0, "b": 0})
        self.assertEqual(list(store.news()), [("new", "a"), ("new", "b")])
        self.assertEqual(store.do(("put", "c", read("g(let x = f(g(x)) in x)"))), 2)
        self.assertEqual((store.roots["c"], store.shared("a", "c"), str(store)), (1, (0, 1), "store of 3 programs, 2 nodes"))
        self.assertEqual(store["c"].nodes, (("word", "g", (1,)), ("word", "f", (0,))))
        self.assertEqual(store.do(("rename", "b", "d"), ("put", "a", APART)), 3)
        self.assertEqual(list(store.news()), [("gone", "b"), ("new", "d"), ("other", "a")])
        self.assertEqual(store.users(4), ("c", "d"))
        self.assertEqual(store.undo(), 2)
        self.assertEqual(store.alike("a"), ("a", "b"))

    def test_constants(self):
        self.assertEqual((MAX_PROGRAMS, MAX_STORED, MAX_KEPT), (20, 300, 1000))


class WithAModel(Case):

    def compare(self, store, model):
        """Compare all that a store tells with a model."""
        nodes, roots = naive_store(model.now)
        self.assertEqual((store.names, store.nodes, store.roots), (tuple(sorted(model.now)), nodes, roots))
        self.assertEqual(list(store.roots), sorted(model.now))
        self.assertEqual((store.steps, store.kept, list(store.news())), (len(model.done), model.kept, model.told))
        self.assertEqual((len(store), str(store)), (len(roots), f"store of {len(roots)} programs, {len(nodes)} nodes"))
        below = {name: set(naive_reached(nodes, roots[name])) for name in roots}
        for name in roots:
            self.assertEqual(store[name].nodes, model.now[name])
            self.assertEqual(store.alike(name), tuple(sorted(one for one in roots if model.now[one] == model.now[name])))
            for other in roots:
                self.assertEqual(store.shared(name, other), tuple(sorted(below[name] & below[other])))
        for node in range(len(nodes)):
            self.assertEqual(store.users(node), tuple(sorted(name for name in roots if node in below[name])))

    def some_edit(self, rng, model, programs):
        name, other = rng.choice(["a", "b", "c", "d", "e"]), rng.choice(["a", "b", "c", "d", "e", "zz"])
        if rng.random() < 0.55:
            return ("put", name, rng.choice(programs))
        return rng.choice([("drop", name), ("rename", name, other)])

    def test_random_steps(self):
        rng = random.Random(201)
        programs = some_programs(202)
        refused = 0
        for _ in range(20):
            store, model = Store(), Model()
            for _ in range(45):
                chance = rng.random()
                if chance < 0.6:
                    edits = tuple(self.some_edit(rng, model, programs) for _ in range(rng.choice((0, 1, 1, 1, 2, 3))))
                    wanted, wrong, call, arguments, more = model.do(edits), InvalidEdit, store.do, edits, {}
                else:
                    many = rng.choice((0, 1, 1, 1, 2, 3))
                    call, turn = (store.undo, model.undo) if chance < 0.85 else (store.redo, model.redo)
                    wanted, wrong, arguments, more = turn(many), (NothingToUndo, ("many", many)), (), {"many": many}
                if wanted is None:
                    refused += 1
                    self.fails(wrong, call, *arguments, **more)
                else:
                    self.assertEqual(call(*arguments, **more), wanted)
                if rng.random() < 0.08:
                    model.kept = rng.randrange(5)
                    model.done = model.done[max(0, len(model.done) - model.kept):]
                    self.assertIsNone(store.keep(model.kept))
                self.compare(store, model)
        self.assertGreater(refused, 100)

    def test_the_same_programs_on_other_ways(self):
        rng = random.Random(203)
        programs = some_programs(204)
        for _ in range(12):
            wanted = {name: rng.choice(programs) for name in rng.sample(["a", "b", "c", "d", "e"], 4)}
            nodes, roots = naive_store({name: least_of(program) for name, program in wanted.items()})
            one, other = Store(), Store()
            one.do(*[("put", name, wanted[name]) for name in rng.sample(sorted(wanted), 4)])
            other.do(("put", "zz", rng.choice(programs)), ("put", "q", rng.choice(programs)))
            for name in rng.sample(sorted(wanted), 4):
                other.do(("put", name, rng.choice(programs)))
                other.do(("put", name + "x", wanted[name]))
                other.undo()
                other.redo()
                other.do(("drop", name), ("rename", name + "x", name), ("put", "q", rng.choice(programs)))
            other.do(("drop", "q"), ("drop", "zz"))
            for store in (one, other, other.twin()):
                self.assertEqual((store.nodes, store.roots), (nodes, roots))
            self.assertTrue(one == other)
            self.assertFalse(one != other)

    def test_no_two_nodes_match_and_alike_programs_share_a_root(self):
        store = Store()
        store.do(("put", "a", NEST), ("put", "b", CROSS), ("put", "c", APART), ("put", "d", read("fun z. let y = fun w. at(z, y) in y")))
        self.assertEqual(store.roots["c"], store.roots["d"])
        self.assertEqual(len(store.nodes), 3 + 5 + 4)
        store.do(("put", "e", read("pair(fun a. k(a), fun b. f(k(b), let x = f(g(x)) in x))")), ("put", "g", ROLL))
        self.assertEqual((store.nodes, store.roots), naive_store({name: store[name].nodes for name in store.names}))


class Steps(Case):

    def test_no_edits(self):
        store = Store()
        self.assertEqual(list(store.news()), [])
        store.do(("put", "a", K))
        self.assertEqual(list(store.news()), [("new", "a")])
        store.undo()
        self.assertEqual((store.do(), store.do_all(()), list(store.news())), (0, 0, []))
        self.assertEqual((store.redo(), store.names), (1, ("a",)))

    def test_edits_that_change_nothing_are_a_step(self):
        store = Store()
        store.do(("put", "a", ROLL))
        self.assertEqual((store.do(("put", "a", LONG)), list(store.news())), (2, []))
        self.assertEqual((store.do(("put", "b", K), ("drop", "b")), list(store.news())), (3, []))

    def test_several_edits_in_one_step(self):
        store = Store()
        store.do(("put", "a", K), ("put", "b", ROLL))
        self.assertEqual(store.do(("rename", "a", "c"), ("rename", "b", "a"), ("rename", "c", "b")), 2)
        self.assertEqual(list(store.news()), [("other", "a"), ("other", "b")])
        self.assertEqual(store.do(("drop", "a"), ("put", "a", NEST), ("drop", "b"), ("put", "c", K)), 3)
        self.assertEqual(list(store.news()), [("gone", "b"), ("new", "c"), ("other", "a")])
        self.assertEqual((store.undo(many=3), store.nodes, store.roots, list(store.news())), (0, (), {}, [("gone", "a"), ("gone", "c")]))
        self.assertEqual((store.redo(many=2), store.names, list(store.news())), (2, ("a", "b"), [("new", "a"), ("new", "b")]))

    def test_refused_edits_change_nothing(self):
        store = Store()
        store.do(("put", "a", K), ("put", "b", ROLL))
        store.do(("put", "c", NEST))
        store.undo()
        before = (store.names, store.nodes, store.roots, store.steps, list(store.news()))
        for wrong in (("drop", "c"), ("rename", "a", "b"), ("rename", "a", "a"), ("put", "c", ("name", "x")), None):
            self.fails(InvalidEdit, store.do, ("put", "d", K), ("drop", "a"), wrong, ("put", "e", K))
            self.fails(InvalidEdit, store.do_all, (("put", "d", K), wrong))
            self.assertEqual((store.names, store.nodes, store.roots, store.steps, list(store.news())), before)
        self.assertEqual(store.redo(), 2)

    def test_a_new_step_forgets_undone_ones(self):
        store = Store()
        for name in "abc":
            store.do(("put", name, K))
        store.undo(many=2)
        self.assertEqual(store.do(("put", "d", K)), 2)
        self.fails((NothingToUndo, ("many", 1)), store.redo)
        self.assertEqual(store.names, ("a", "d"))
        self.assertEqual((store.undo(many=0), store.redo(many=0), list(store.news())), (2, 2, []))

    def test_news(self):
        store = Store()
        store.do(("put", "a", K))
        self.fails(InvalidEdit, store.do, ("drop", "b"))
        self.fails((NothingToUndo, ("many", 2)), store.undo, many=2)
        self.fails((NothingToUndo, ("many", 1)), store.redo)
        self.assertEqual(list(store.news()), [("new", "a")])
        store.undo()
        self.assertEqual(list(store.news()), [("gone", "a")])
        store.redo()
        self.assertEqual(list(store.news()), [("new", "a")])
        store.keep(3)
        self.assertEqual(list(store.news()), [("new", "a")])
        self.assertEqual(next(store.news()), ("new", "a"))

    def test_kept_steps(self):
        store = Store(kept=2)
        self.assertEqual([store.do(("put", name, K)) for name in "abcd"], [1, 2, 2, 2])
        self.assertEqual((store.undo(many=2), store.names), (0, ("a", "b")))
        self.fails((NothingToUndo, ("many", 1)), store.undo)
        store.kept = 1
        self.assertEqual((store.kept, store.redo(many=2), store.names), (1, 1, ("a", "b", "c", "d")))
        self.assertEqual((store.undo(), store.names), (0, ("a", "b", "c")))
        self.assertIsNone(store.keep(0))
        self.assertEqual((store.redo(), store.steps, store.names), (0, 0, ("a", "b", "c", "d")))
        self.assertEqual(store.do(("drop", "a")), 0)
        self.fails((NothingToUndo, ("many", 1)), store.undo)
        self.assertEqual((store.undo(many=0), store.kept), (0, 0))
        store.kept = 1000
        self.assertEqual((store.kept, store.do(("drop", "b"))), (1000, 1))
        self.assertEqual(Store().kept, 100)
        self.assertEqual(Store(kept=0).kept, 0)

    def test_undone_steps_stay_where_steps_are_forgotten(self):
        store = Store()
        for name in "abcd":
            store.do(("put", name, K))
        store.undo(many=2)
        store.keep(1)
        self.assertEqual((store.steps, store.undo(), store.names), (1, 0, ("a",)))
        self.assertEqual((store.redo(many=3), store.names), (1, ("a", "b", "c", "d")))

    def test_wrong_numbers(self):
        for value, wanted in wrong_numbers(1001):
            self.fails(wanted, Store, kept=value)
            store = Store()
            store.do(("put", "a", K))
            self.fails(wanted, store.keep, value)
            self.fails(wanted, setattr, store, "kept", value)
            self.assertEqual((store.kept, store.steps), (100, 1))
        for value, wanted in wrong_numbers():
            self.fails(wanted, store.undo, many=value)
            self.fails(wanted, store.redo, many=value)
        self.fails((NothingToUndo, ("many", 10 ** 40 - 1)), store.undo, many=10 ** 40 - 1)


class Edits(Case):

    def wrong_edits(self):
        """Values that are no edits of a store with the programs a and b."""
        found = [value for value in odd_values()]
        for edit in (("put", "c", K), ("drop", "a"), ("rename", "a", "c")):
            found += [value for value in exchanged(edit, [one for one in small_values() if not isinstance(one, Graph) and not naive_is_term(one)])
                      if not self.is_edit(value)]
        found += [("put", "c", ("name", "x")), ("put", "c", Store()), ("drop", "c"), ("rename", "c", "d"), ("rename", "a", "b"), ("rename", "a", "a")]
        return found

    def is_edit(self, value):
        if not isinstance(value, tuple):
            return False
        match value:
            case ("put", name, program):
                return naive_is_name(name) and naive_is_term(program)
            case ("drop", name):
                return isinstance(name, str) and name in "ab"
            case ("rename", name, other):
                return isinstance(name, str) and name in "ab" and naive_is_name(other) and other not in "ab"
        return False

    def test_any_value(self):
        store = Store()
        store.do(("put", "a", K), ("put", "b", ROLL))
        many = 0
        for value in self.wrong_edits():
            if value != ():
                many += 1
                self.fails(InvalidEdit, store.do, value)
                self.fails(InvalidEdit, store.do_all, (("put", "z", K), value, None))
        self.assertGreater(many, 200)
        for value in odd_values():
            if value != ():
                self.fails(InvalidEdit, store.do_all, value)
        self.assertEqual((store.names, store.steps), (("a", "b"), 1))

    def test_terms_with_too_many_nodes(self):
        store = Store()
        self.assertEqual(store.do(("put", "a", deep_term(100))), 1)
        big = ("put", "b", deep_term(101))
        self.fails((TooMany, ("limit", 100)), store.do, big)
        self.fails((TooMany, ("limit", 100)), store.do, big, ("drop", "b"))
        self.fails((TooMany, ("limit", 100)), store.do, big, ("put", "b", K))
        self.fails(InvalidEdit, store.do, big, ("drop", "c"))
        many = [("put", "x" + letter, K) for letter in "abcdefghijklmnopqrstu"]
        self.fails((TooMany, ("limit", 100)), store.do, *many, big)
        self.assertEqual((store.names, store.steps), (("a",), 1))

    def test_too_many_programs(self):
        store = Store()
        names = ["x" + letter for letter in "abcdefghijklmnopqrst"]
        self.assertEqual(store.do(*[("put", name, K) for name in names]), 1)
        self.fails((TooMany, ("limit", 20)), store.do, ("put", "y", K))
        self.assertEqual(store.do(("put", "y", K), ("put", "z", ROLL), ("drop", "xa"), ("drop", "xb")), 2)
        self.assertEqual(len(store), 20)
        graphs = [("put", "big" + letter, long_graph(letter)) for letter in "abcd"]
        self.fails((TooMany, ("limit", 20)), store.do, *graphs)

    def test_too_many_nodes(self):
        store = Store()
        self.assertEqual(store.do(*[("put", letter, long_graph(letter)) for letter in "abc"]), 1)
        self.assertEqual(len(store.nodes), 300)
        self.fails((TooMany, ("limit", 300)), store.do, ("put", "d", K))
        self.assertEqual(store.do(("put", "d", long_graph("d")), ("put", "e", long_graph("e")), ("drop", "d"), ("drop", "a")), 2)
        self.assertEqual((len(store.nodes), store.do(("put", "z", long_graph("b"))), len(store.nodes)), (300, 3, 300))
        self.assertEqual(store.do(("put", "z", read("fx(f(f(k())))")), ("drop", "e")), 4)


class Asking(Case):

    def test_where(self):
        rng = random.Random(205)
        programs = some_programs(206)
        found = 0
        for _ in range(20):
            store = Store()
            store.do(*[("put", name, rng.choice(programs)) for name in "abc"])
            for program in rng.sample(programs, 12) + [graph_of(read("f()"))]:
                graph = program if isinstance(program, Graph) else graph_of(program)
                node = store.where(graph)
                needs = naive_needs(store.nodes)
                closed = [at for at in range(len(store.nodes)) if not needs[at]]
                there = [at for at in closed if naive_numbered(store.nodes, at) == least_of(program)]
                self.assertEqual([node], there or [None])
                found += node is not None
            for at in closed:
                self.assertEqual(store.where(Graph.of(naive_numbered(store.nodes, at))), at)
        self.assertGreater(found, 20)

    def test_where_inside_of_functions(self):
        store = Store()
        store.do(("put", "a", read("fun a. pair(a, fun b. k(a, b, fun c. c))")))
        self.assertEqual(store.where(graph_of(read("fun z. z"))), 6)
        self.assertIsNone(store.where(graph_of(read("fun b. k(b, b, fun c. c)"))))
        self.assertIsNone(Store().where(graph_of(K)))
        check_errors(self, store.where, ([graph_of(K)], wrong_graphs()))

    def test_names(self):
        store = Store()
        store.do(("put", "a", K), ("put", "b", ROLL))
        for value in small_values():
            wanted = value == "a" or value == "b"
            self.assertIs(value in store, wanted)
            if not wanted:
                unknown = (UnknownName, ("name", value)) if value == value else UnknownName
                self.fails(unknown, lambda: store[value])
                self.fails(unknown, store.alike, value)
                self.fails(unknown, store.shared, value, None)
                self.fails(unknown, store.shared, "a", value)
        check_errors(self, store.users, ([0, 2], wrong_numbers(3)))
        self.assertIs("a" in store, True)
        self.assertIs(("word", "k", ()) in store, False)

    def test_equality_length_and_iteration(self):
        one, other = Store(), Store(kept=3)
        self.assertTrue(one == other)
        self.assertEqual(str(one), "store of 0 programs, 0 nodes")
        one.do(("put", "a", ROLL))
        self.assertTrue(one != other)
        other.do(("put", "b", ROLL))
        self.assertFalse(one == other)
        other.do(("rename", "b", "a"), ("put", "a", LONG))
        self.assertTrue(one == other)
        other.do(("put", "a", K))
        self.assertFalse(one == other)
        for value in odd_values():
            self.assertIs(one == value, False)
            self.assertIs(one != value, True)
        for call in (iter, list, lambda store: [*store]):
            self.assertRaises(TypeError, call, one)
        self.assertEqual((len(one), bool(Store()), str(one)), (1, False, "store of 1 programs, 2 nodes"))

    def test_nothing_gives_access_to_the_state(self):
        store = Store()
        store.do(("put", "a", K))
        store.roots["a"] = 7
        store.roots.clear()
        self.assertEqual(store.roots, {"a": 0})
        self.assertIs(type(store.nodes), tuple)
        self.assertIs(type(store.names), tuple)
        for name in ("names", "nodes", "roots", "steps"):
            self.assertRaises(AttributeError, setattr, store, name, ())


class Trials(Case):

    def state(self, store):
        return (store.names, store.nodes, store.roots, store.steps, store.kept, list(store.news()))

    def setUp(self):
        self.store = Store()
        self.store.do(("put", "a", K))
        self.store.do(("put", "b", ROLL))
        self.store.do(("put", "c", NEST))
        self.store.undo()
        self.before = self.state(self.store)

    def test_blocks(self):
        with self.store.trial() as same:
            self.assertIs(same, self.store)
            same.do(("put", "d", K), ("drop", "a"))
            self.store.kept = 1
            self.assertEqual(self.store.names, ("b", "d"))
        self.assertEqual(self.state(self.store), self.before)
        self.assertEqual((self.store.redo(), self.store.names), (3, ("a", "b", "c")))

    def test_nested_blocks_and_errors(self):
        with self.store.trial() as same:
            same.do(("put", "d", K))
            inner = self.state(same)
            with self.assertRaises(UnknownName):
                with same.trial():
                    same.do(("drop", "d"))
                    same.undo(many=3)
                    same["zz"]
            self.assertEqual(self.state(same), inner)
            with same.trial() as further:
                further.do(("put", "e", K))
                with further.trial():
                    further.do(("drop", "e"))
                self.assertEqual(further.names, ("a", "b", "d", "e"))
            self.assertEqual(self.state(same), inner)
        self.assertEqual(self.state(self.store), self.before)

    def test_one_block_used_again(self):
        block = self.store.trial()
        for name in ("d", "e"):
            with block:
                self.store.do(("put", name, K))
            self.assertEqual(self.state(self.store), self.before)
        self.store.do(("put", "f", K))
        now = self.state(self.store)
        with block:
            self.store.undo(many=3)
        self.assertEqual(self.state(self.store), now)

    def test_one_block_in_itself(self):
        block = self.store.trial()
        with block as same:
            same.do(("put", "d", K))
            inner = self.state(same)
            with self.assertRaises(UnknownName):
                with block:
                    same.do(("drop", "d"))
                    with block:
                        same.undo(many=3)
                    self.assertEqual(same.names, ("a", "b"))
                    same["zz"]
            self.assertEqual(self.state(same), inner)
        self.assertEqual(self.state(self.store), self.before)

    def test_attempts(self):
        def action(store):
            self.assertIs(store, self.store)
            store.do(("put", "d", K))
            return store.names, list(store.news())
        self.assertEqual(self.store.attempt(action), (("a", "b", "d"), [("new", "d")]))
        self.assertEqual(self.state(self.store), self.before)
        self.assertEqual(self.store.attempt(lambda store: store.attempt(action)[0]), ("a", "b", "d"))
        self.fails((NothingToUndo, ("many", 9)), self.store.attempt, lambda store: (store.do(("drop", "a")), store.undo(many=9)))
        self.assertEqual(self.state(self.store), self.before)

    def test_twins(self):
        twin = self.store.twin()
        self.assertEqual(self.state(twin), self.before)
        self.assertTrue(twin == self.store)
        self.assertIs(type(twin), Store)
        twin.do(("put", "d", K))
        twin.keep(1)
        self.assertEqual(self.state(self.store), self.before)
        self.assertEqual((self.store.redo(), twin.names), (3, ("a", "b", "d")))
        other = self.store.twin()
        self.store.undo(many=3)
        self.assertEqual((other.undo(), other.names, len(self.store)), (2, ("a", "b"), 0))


class LongOnes(Case):

    def test_a_full_store_and_many_steps(self):
        store = Store(kept=1000)
        names = ["x" + letter for letter in "abcdefghijklmnopqrst"]
        store.do(*[("put", name, long_graph(letter, 15)) for name, letter in zip(names, "abcdefghijklmnopqrst")])
        self.assertEqual((len(store), len(store.nodes)), (20, 300))
        for number in range(1001):
            store.do(("put", names[number % 20], long_graph("abcdefghijklmnopqrst"[(number + number // 20) % 20], 15)))
        self.assertEqual(store.steps, 1000)
        self.assertEqual((store.undo(many=1000), store.redo(many=999)), (0, 999))
        self.assertEqual(store.users(0)[0], "xa")

    def test_programs_that_share_much(self):
        store = Store()
        rows = [Graph.of(ring(100, (at, 99))) for at in range(3)]
        store.do(*[("put", "r" + letter, graph) for letter, graph in zip("abc", rows)])
        self.assertEqual(len(store.nodes), 300)
        nested = [deep_term(many) for many in range(81, 101)]
        store.do(*[("drop", "r" + letter) for letter in "abc"], *[("put", "t" + letter, term) for letter, term in zip("abcdefghijklmnopqrst", nested)])
        self.assertEqual((len(store), len(store.nodes)), (20, 100))
        self.assertEqual(len(store.shared("ta", "tt")), 81)


if __name__ == "__main__":
    unittest.main()
