"""Tests of the shell: [0.7], [22.1]."""

import random
import unittest

from sharedlets.alike.differences import first_difference
from sharedlets.errors import (
    InvalidAddress, InvalidCommand, InvalidEdit, InvalidNumber, InvalidOperation, NothingToUndo, ParseError, TooMany, UnknownName,
)
from sharedlets.families.least import least_family
from sharedlets.families.texts import write_family
from sharedlets.graphs.graphs import Graph
from sharedlets.graphs.made import graph_of, term_of
from sharedlets.looks.addresses import look
from sharedlets.looks.counts import level_size
from sharedlets.store.store import Store
from sharedlets.terms.texts import read, write
from sharedlets.text.formats import format_difference, parse_address
from sharedlets.text.shell import Shell
from tests.helper import ROLL, TEXTS, Case, deep_term, letters, odd_values, shown

K = ("word", "k", ())
EXAMPLE = ("put a let x = f(g(x)) in x", "put b let x = f(g(f(g(x)))) in x", "put c fun a. f(g(a))", "alike a b", "show b")


def look_text(value):
    return {"word": f"{value[1:2] and value[1]}/{value[-1]}", "fun": "fun", "var": f"var {value[-1]}"}[value[0]]


class Examples(Case):

    def test_lines(self):
        shell = Shell()
        self.assertEqual(list(shell.run_all(EXAMPLE)), ["new a", "new b", "new c", "yes", "let da = f(g(da)) in da"])
        self.assertEqual([shell("shared a b"), shell("look c 0.0.0"), shell("level a 70"), shell("where let x = g(f(x)) in x")], ["2", "var 3", "1", "a b"])
        self.assertEqual([shell("undo 2"), shell("names"), len(shell)], ["gone b, gone c", "a", 4])


class Commands(Case):

    def shell(self):
        shell = Shell()
        list(shell.run_all(EXAMPLE[:3]))
        return shell

    def test_changes(self):
        shell = self.shell()
        self.assertEqual(shell("rename a d"), "gone a, new d")
        self.assertEqual(shell("put d k()"), "other d")
        self.assertEqual(shell("put b let x = f(g(x)) in x"), "ok")
        self.assertEqual(shell("drop c"), "gone c")
        self.assertEqual(shell("undo 0"), "ok")
        self.assertEqual(shell("undo 4"), "gone d, new a, new c")
        self.assertEqual(shell("redo 2"), "gone a, new d")
        self.assertEqual(shell("redo 2"), "gone c")
        self.assertEqual(shell("names"), "b d")
        self.assertEqual(shell("drop b"), "gone b")
        self.assertEqual(shell("drop d"), "gone d")
        self.assertEqual(shell("names"), "none")
        self.assertEqual(len(shell), 13)

    def test_questions(self):
        shell = self.shell()
        self.assertEqual(shell("names"), "a b c")
        self.assertEqual(shell("show c"), "fun va. f(g(va))")
        self.assertEqual([shell("size a"), shell("size c")], ["2", "4"])
        self.assertEqual([shell("family a"), shell("family c")], ["main[] = f(g(main[]))", "main[] = fun a. f(g(a))"])
        self.assertEqual([shell("alike a b"), shell("alike a c"), shell("alike c a")], ["yes", "-: f/1, fun", "-: fun, f/1"])
        self.assertEqual([shell("shared a b"), shell("shared a c"), shell("shared c c")], ["2", "0", "4"])
        self.assertEqual([shell("look a -"), shell("look a (0.0)*5.0"), shell("look c -"), shell("look c 0.0.0")], ["f/1", "g/1", "fun", "var 3"])
        self.assertEqual([shell("level a 0"), shell("level a 1000"), shell("level c 9")], ["1", "1", "0"])
        self.assertEqual([shell("where let x = g(f(x)) in x"), shell("where k()"), shell("where fun z. f(g(z))")], ["a b", "none", "c"])
        self.assertEqual(len(shell), 3)
        self.assertEqual(shell.run("put e let g = fun a. pair(a, g) in pair(g, g)"), "new e")
        self.assertEqual(shell("family e"), "main[] = pair(a[], a[]) & a[] = fun a. pair(a, a[])")

    def test_against_the_functions_behind_them(self):
        texts = [text for text in TEXTS if len(graph_of(read(text))) < 30][:18]
        store = Store()
        shell = Shell(store)
        names = [letters("n", at) for at in range(len(texts))]
        for name, text in zip(names, texts):
            self.assertEqual(shell(f"put {name} {text}"), f"new {name}")
        self.assertEqual(shell("names"), " ".join(names))
        for name, text in zip(names, texts):
            graph = store[name]
            self.assertEqual(shell(f"show {name}"), write(term_of(graph)))
            self.assertEqual(shell(f"size {name}"), str(len(graph)))
            self.assertEqual(shell(f"family {name}"), " & ".join(write_family(least_family(graph)).split("\n")))
            self.assertEqual(shell(f"where {text}"), " ".join(store.users(store.roots[name])))
            for depth in (0, 1, 7):
                self.assertEqual(shell(f"level {name} {depth}"), str(level_size(graph, depth)))
            for address in ("-", "0", "0.0", "(0)*3", "1"):
                try:
                    wanted = look_text(look(graph, parse_address(address)))
                except InvalidAddress:
                    self.fails(InvalidAddress, shell, f"look {name} {address}")
                else:
                    self.assertEqual(shell(f"look {name} {address}"), wanted)
            for other in names:
                found = first_difference(graph, store[other])
                self.assertEqual(shell(f"alike {name} {other}"), "yes" if found is None else format_difference(found))
                self.assertEqual(shell(f"shared {name} {other}"), str(len(store.shared(name, other))))
        self.assertEqual(len(shell), len(texts))


class WhatIsNoCommand(Case):

    def test_lines_that_are_none(self):
        shell = Shell()
        shell("put a k()")
        for line in odd_values() + [
            " names", "names ", "names  ", "names a", "Names", "name", "show", "show a b", "show  a", "show a ", "size", "family a b", "drop", "drop a b",
            "rename a", "rename a b c", "put", "put a", "put a ", "put  a k()", "put a  k()", "put a fun x.  x", "put a k() ", "put a k()\n", "put\na k()",
            "put a f(k(),\nk())", "names\n", "\nnames", "undo", "undo a", "undo -1", "undo 01", "undo 00", "undo 100000", "undo 1 2", "undo +1", "undo 1.0",
            "redo", "redo 1 2", "redo 000001", "alike a", "alike a a a", "shared a", "look a", "look a - -", "look a 0 . 0", "level a", "level a b", "level a 01",
            "level a 1 1", "level b 100000", "where", "where ", "where  k()", "undo \u0661", "undo 1_0", "quit", "news", "put\ta k()",
        ]:
            self.fails(InvalidCommand, shell.run, line)
            self.fails(InvalidCommand, shell, line)
        self.assertEqual((shell.log, shell.names), (("put a k()",), ("a",)))

    def test_texts_that_are_none(self):
        shell = Shell()
        shell("put a k()")
        for line in ("put b x", "put b f(", "put b f(k(),k())", "put b fun x . x", "put B k", "put a let x = x in x", "where x", "where fun x. y", "where k",
                     "look a 3", "look a k", "look zz 3", "look zz 0.", "look a --", "look a (0)*01", "put a " + "f(" * 130 + "k()" + ")" * 130):
            self.fails(ParseError, shell, line)
        self.assertEqual(len(shell), 1)

    def test_errors_of_what_is_called(self):
        shell = Shell()
        shell("put a k()")
        for line, wanted in (
            ("put B k()", InvalidEdit), ("put let k()", InvalidEdit), ("put abcdefghi k()", InvalidEdit), ("drop b", InvalidEdit), ("drop B!", InvalidEdit),
            ("rename b c", InvalidEdit), ("rename a a", InvalidEdit), ("rename a C", InvalidEdit), ("undo 2", (NothingToUndo, ("many", 2))),
            ("redo 1", (NothingToUndo, ("many", 1))), ("undo 99999", (NothingToUndo, ("many", 99999))), ("show b", (UnknownName, ("name", "b"))),
            ("size B!", (UnknownName, ("name", "B!"))), ("family b", (UnknownName, ("name", "b"))), ("alike b c", (UnknownName, ("name", "b"))),
            ("alike a c", (UnknownName, ("name", "c"))), ("shared a c", (UnknownName, ("name", "c"))), ("shared c b", (UnknownName, ("name", "c"))),
            ("look b -", (UnknownName, ("name", "b"))), ("look b 0.0", (UnknownName, ("name", "b"))), ("look a 0", InvalidAddress), ("look a (0)*2", InvalidAddress),
            ("level b 1", (UnknownName, ("name", "b"))), ("level b 1001", (UnknownName, ("name", "b"))), ("level a 1001", (TooMany, ("limit", 1000))),
            ("level a 99999", (TooMany, ("limit", 1000))), ("where " + write(deep_term(101)), (TooMany, ("limit", 100))),
            ("put b " + write(deep_term(101)), (TooMany, ("limit", 100))),
        ):
            self.fails(wanted, shell, line)
            self.fails(wanted, shell.run, line)
        self.assertEqual((shell.log, shell.names, shell("undo 1"), shell("redo 1")), (("put a k()",), ("a",), "gone a", "new a"))

    def test_a_family_with_too_many_parameters(self):
        names = [letters("v", at) for at in range(9)]
        inner = f"f(f({', '.join(names[:3])}), f({', '.join(names[3:6])}), f({', '.join(names[6:])}))"
        shell = Shell()
        shell("put a " + "".join(f"fun {name}. " for name in names) + f"pair({inner}, m({inner}))")
        self.fails((TooMany, ("limit", 8)), shell, "family a")

    def test_full_stores(self):
        shell = Shell()
        for at in range(20):
            shell(f"put {letters('n', at)} k()")
        self.fails((TooMany, ("limit", 20)), shell, "put x k()")
        self.assertEqual(len(shell), 20)


class Shells(Case):

    def test_a_shell_works_on_the_store_itself(self):
        store = Store()
        shell = Shell(store)
        shell("put a k()")
        self.assertEqual(store.names, ("a",))
        store.do(("put", "b", ROLL))
        self.assertEqual((shell.names, shell("names"), len(shell), shell("undo 1")), (("a", "b"), "a b", 1, "gone b"))
        with store.trial():
            shell("drop a")
        self.assertEqual((store.names, shell.log), (("a",), ("put a k()", "undo 1", "drop a")))
        self.assertIsNot(Shell()._store, Shell()._store)
        for value in odd_values() + [shell]:
            if value is not None:
                self.fails(InvalidOperation, Shell, value)
                self.fails(InvalidOperation, Shell, store=value)
        self.assertEqual(Shell(None).names, ())
        self.assertEqual(Shell(store=store).names, ("a",))

    def test_logs(self):
        rng = random.Random(221)
        for _ in range(10):
            shell = Shell()
            lines = []
            for _ in range(40):
                line = rng.choice(("put a k()", "put b let x = f(g(x)) in x", "put c fun a. a", "rename a d", "rename b a", "drop c", "undo 1", "undo 2", "redo 1",
                                   "redo 0", "names", "show a", "alike a b", "size c", "put a x", "undo", "where k()"))
                try:
                    shell(line)
                except (InvalidEdit, NothingToUndo, UnknownName, ParseError, InvalidCommand):
                    continue
                if line.split(" ")[0] in ("put", "drop", "rename", "undo", "redo"):
                    lines.append(line)
            self.assertEqual((shell.log, len(shell)), (tuple(lines), len(lines)))
            other = Shell()
            list(other.run_all(shell.log))
            one, two = shell.stored(), other.stored()
            self.assertEqual((one.nodes, one.roots, one.steps, list(one.news())), (two.nodes, two.roots, two.steps, list(two.news())))
            self.assertTrue(one == two)

    def test_each_line_is_done_when_it_is_asked_for(self):
        shell = Shell()
        answers = shell.run_all(("put a k()", "put b k()", "wrong", "put c k()"))
        self.assertEqual(len(shell), 0)
        self.assertEqual((next(answers), shell.names), ("new a", ("a",)))
        self.assertEqual((next(answers), shell.names), ("new b", ("a", "b")))
        self.fails(InvalidCommand, next, answers)
        self.assertEqual(shell.names, ("a", "b"))
        for value in odd_values():
            if not isinstance(value, tuple):
                wrong = shell.run_all(value)
                self.fails(InvalidOperation, next, wrong)
        self.assertEqual(list(shell.run_all(())), [])
        self.fails(InvalidCommand, next, shell.run_all((3,)))

    def test_twins_length_truth_and_text(self):
        shell = Shell()
        self.assertEqual((bool(shell), len(shell), str(shell), shell.log), (False, 0, "shell of 0 programs, 0 nodes", ()))
        shell("names")
        self.assertIs(bool(shell), False)
        list(shell.run_all(EXAMPLE[:3]))
        self.assertEqual((bool(shell), str(shell), len(shell)), (True, "shell of 3 programs, 6 nodes", 3))
        twin = shell.stored()
        self.assertIs(type(twin), Store)
        twin.do(("drop", "a"))
        self.assertEqual((shell.names, twin.names, twin.undo(many=4)), (("a", "b", "c"), ("b", "c"), 0))
        self.assertRaises(TypeError, iter, shell)
        self.assertRaises(AttributeError, setattr, shell, "log", ())
        shell("undo 3")
        self.assertEqual((len(shell), bool(shell), str(shell)), (4, True, "shell of 0 programs, 0 nodes"))

    def test_many_lines(self):
        shell = Shell()
        for at in range(300):
            shell(f"put {letters('n', at % 20)} {TEXTS[at % 20]}")
        self.assertEqual((len(shell), shell.stored().steps, len(shell.names)), (300, 100, 20))
        self.assertEqual(shell("undo 100").count(","), 0)
        self.fails((NothingToUndo, ("many", 1)), shell, "undo 1")


if __name__ == "__main__":
    unittest.main()
