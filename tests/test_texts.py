"""Tests of the texts of open terms: [2.1]."""

import random
import unittest

from sharedlets.errors import InvalidTerm, ParseError
from sharedlets.terms import texts
from sharedlets.terms.terms import fun, let_of, part_at, use, word
from sharedlets.terms.texts import read, read_open, write
from tests.helper import (
    ROLL, TEXTS, Case, chain, exchanged, fun_row, letters, naive_is_open, naive_is_term, naive_read, odd_values, random_part,
    random_terms, wide,
)

K = ("word", "k", ())
X = ("name", "x")


def open_terms():
    rng = random.Random(21)
    return [random_part(rng, rng.randrange(1, 6)) for _ in range(200)] + [wide(500), chain(120), fun_row(119, X)]


class Texts(Case):

    def check_text(self, text):
        """The text is read just if it is the text of an open term, of a term."""
        wanted = naive_read(text)
        if wanted is None:
            self.fails(ParseError, read_open, text)
            self.fails(ParseError, read, text)
            return
        self.assertEqual(read_open(text), wanted)
        self.assertEqual(write(wanted), text)
        if naive_is_term(wanted):
            self.assertEqual(read(text), wanted)
        else:
            self.fails(ParseError, read, text)

    def test_each_form(self):
        two = (("x", K), ("y", ("name", "z")))
        rows = {
            "x": X,
            "abcdefgh": ("name", "abcdefgh"),
            "k()": K,
            "f(x)": ("word", "f", (X,)),
            "f(x, k())": ("word", "f", (X, K)),
            "f(x, k(), x)": ("word", "f", (X, K, X)),
            "fun a. x": ("fun", "a", X),
            "fun a. fun b. a": ("fun", "a", ("fun", "b", ("name", "a"))),
            "let x = k() in x": ("let", (("x", K),), X),
            "let x = k(); y = z in x": ("let", two, X),
            "let y = z; x = k() in x": ("let", two[::-1], X),
            "let x = fun a. x in k()": ("let", (("x", ("fun", "a", X)),), K),
            "f(fun a. x, let x = k() in x)": ("word", "f", (("fun", "a", X), ("let", (("x", K),), X))),
            "fun a. let x = k() in fun b. x": ("fun", "a", ("let", (("x", K),), ("fun", "b", X))),
            "fun letter. funny(inn, fu)": ("fun", "letter", ("word", "funny", (("name", "inn"), ("name", "fu")))),
        }
        for text, part in rows.items():
            self.assertEqual(write(part), text)
            self.assertEqual(read_open(text), part)

    def test_how_far_terms_reach(self):
        inner = ("let", (("y", X),), ("name", "y"))
        rows = {
            "let x = let y = x in y in x": ("let", (("x", inner),), X),
            "let z = fun a. let y = x in y; x = x in x": ("let", (("z", ("fun", "a", inner)), ("x", X)), X),
            "let z = let y = x; x = x in y in x": ("let", (("z", ("let", (("y", X), ("x", X)), ("name", "y"))),), X),
            "let x = k() in let y = x in y": ("let", (("x", K),), inner),
            "f(let y = x in y, x)": ("word", "f", (inner, X)),
            "f(fun a. let y = x in y, x)": ("word", "f", (("fun", "a", inner), X)),
            "let z = f(fun a. x, x); x = fun a. x in fun a. x": (
                "let", (("z", ("word", "f", (("fun", "a", X), X))), ("x", ("fun", "a", X))), ("fun", "a", X)),
        }
        for text, part in rows.items():
            self.assertEqual(write(part), text)
            self.assertEqual(read_open(text), part)

    def test_written_texts_are_read_back(self):
        for part in open_terms():
            self.assertTrue(naive_is_open(part))
            self.assertEqual(read_open(write(part)), part)
            self.assertEqual(naive_read(write(part)), part)
        for text in TEXTS:
            self.assertEqual(write(read(text)), text)
        for term in random_terms(random.Random(22), 60):
            self.assertEqual(read(write(term)), term)

    def test_terms_alone(self):
        for text in ("x", "f(x)", "fun a. b", "let x = x in k()", "let x = y; y = x in k()", "let x = k() in y"):
            self.assertTrue(naive_is_open(read_open(text)))
            self.fails(ParseError, read, text)

    def test_definitions_in_any_order(self):
        self.assertEqual(write(let_of(use("a"), {"b": K, "a": K})), "let a = k(); b = k() in a")
        self.assertEqual(read("let b = k(); a = k() in a")[1], (("b", K), ("a", K)))

    def test_what_is_no_text(self):
        wrong = (
            "", " ", "x ", " x", "X", "x1", "x\n", "\n", "x y", "xx(", "f(", "f)", "()", "f(,)", "f(x,)", "f(x,y)", "f(x , y)",
            "f( x)", "f(x )", "f (x)", "f(x)(y)", "f()()", "f(x, y", "f(x y)", "f(x;  y)", "f(x)  ", "f(a, b, c, d)", "(x)",
            "f(a, , b)", "f(, a)", "fun", "fun ", "fun a", "fun a.", "fun a. ", "fun a.b", "fun a . b", "fun  a. b", "fun a.  b",
            "funa. b", "fun. b", "fun . b", "fun a b. a", "fun fun. k()", "fun let. k()", "fun in. k()", "let", "let ", "let x",
            "let x =", "let x = ", "let x = k()", "let x = k() in", "let x = k() in ", "let x = k() inx", "let x = k()in x",
            "let x=k() in x", "let x =k() in x", "let x= k() in x", "let x = k()  in x", "let x = k() in  x",
            "let x = k() ; y = k() in x", "let x = k();y = k() in x", "let x = k(); in x", "let ; x = k() in x", "let in x",
            "let x = k(), y = k() in x", "let x = k(); x = x in x", "let in = k() in x", "let fun = k() in x", "let x = in in x",
            "let x = k() in x in x", "f(x in x)", "let x = k() in x; y = k()", "x; y = k()", "x in y", "fun a. a, b", "f(x); g(x)",
            "in", "in()", "let()", "fun()", "abcdefghi", "abcdefghi()", "fun abcdefghi. k()", "let abcdefghi = k() in k()",
            "let  x = k() in x", "letx = k() in x", "f(x", "f(let x = k(), y)", "f(let x = y; z)", "f(x)\n", "f(x,\ny)", "f[x]",
            "x.", "x,", "x;", "x)", "let f() = x in x", "let x = f(y; z = k() in y) in x", "fun f(). x",
        )
        for text in wrong:
            self.assertIsNone(naive_read(text))
            self.fails(ParseError, read_open, text)
            self.fails(ParseError, read, text)

    def test_names_of_eight_and_nine_letters(self):
        for text in ("{}", "{}()", "fun {}. k()", "let {} = k() in k()", "let a = k(); {} = k() in a", "f(x, {})"):
            self.assertEqual(write(read_open(text.format("q" * 8))), text.format("q" * 8))
            for name in ("q" * 9, "fun", "let", "in", "", "Q", "q1", "q_", "q" * 600):
                self.fails(ParseError, read_open, text.format(name))

    def test_one_sign_changed(self):
        texts_to_change = TEXTS[:3] + TEXTS[5:10] + ("let x = f(y); z = let y = k() in y in g(x, fun b. z, x)", "f(x, y, z)")
        for text in texts_to_change:
            for at in range(len(text) + 1):
                self.check_text(text[:at] + text[at + 1:])
                for sign in " axfn().,;=A1\n~":
                    self.check_text(text[:at] + sign + text[at:])
                    self.check_text(text[:at] + sign + text[at + 1:])

    def test_some_signs_changed(self):
        rng = random.Random(23)
        pieces = ("fun ", "let ", " in ", "; ", ", ", ". ", " = ", "a", "x", "f(", ")", "()", "k()", " ", "in", "fun a. ", "let a = ")
        for part in open_terms()[:120]:
            text = write(part)
            for _ in range(12):
                at, to = sorted((rng.randrange(len(text) + 1), rng.randrange(len(text) + 1)))
                self.check_text(text[:at] + rng.choice(pieces) + text[at:])
                self.check_text(text[:at] + rng.choice(pieces) + text[min(to, at + 3):])
                self.check_text(text[:at] + text[to:])

    def test_limits(self):
        for many in (499, 500):
            self.assertEqual(read(write(wide(many))), wide(many))
        text = write(wide(500))
        self.fails(ParseError, read_open, text.replace("f()", "f(f())", 1))
        self.fails(ParseError, read, f"fun a. {text}")
        text = write(chain(120))
        self.assertEqual(read(text), chain(120))
        self.fails(ParseError, read_open, f"f({text})")
        self.fails(ParseError, read_open, f"fun a. {text}")
        self.fails(ParseError, read_open, f"let a = {text} in k()")
        self.fails(ParseError, read_open, f"let a = k() in {text}")
        for many in (119, 120, 121, 130, 150):
            for text in ("fun a. " * many + "a", "f(" * many + "a" + ")" * many, "let a = " * many + "a" + " in a" * many,
                         "let a = k() in " * many + "a"):
                if many == 119:
                    self.assertEqual(write(read_open(text)), text)
                else:
                    self.fails(ParseError, read_open, text)
        self.fails(ParseError, read_open, "f(" * 150)
        self.fails(ParseError, read_open, "a" * 600)

    def test_100_definitions(self):
        for many in (99, 100, 101):
            text = "let " + "; ".join(f"{letters('q', at)} = k()" for at in range(many)) + " in qa"
            if many <= 100:
                self.assertEqual(len(read(text)[1]), many)
                self.assertEqual(write(read(text)), text)
            else:
                self.fails(ParseError, read_open, text)
                self.fails(ParseError, read, text)

    def test_what_is_no_string(self):
        for value in odd_values():
            if not isinstance(value, str):
                self.fails(ParseError, read_open, value)
                self.fails(ParseError, read, value)
            else:
                self.check_text(value)

    def test_what_is_no_open_term(self):
        for value in odd_values():
            if not naive_is_open(value):
                self.fails(InvalidTerm, write, value)
        for value in exchanged(ROLL, [None, 0, "x", "in", (), [], ("name", "X"), ["name", "x"]]):
            if naive_is_open(value):
                self.assertEqual(naive_read(write(value)), value)
            else:
                self.fails(InvalidTerm, write, value)

    def test_equal_calls_have_equal_results(self):
        self.assertEqual(write(ROLL), write(word("f", ROLL)[2][0]))
        self.assertEqual(read(TEXTS[-1]), read(TEXTS[-1]))

    def test_everything_stands_in_its_module(self):
        for name in ("write", "read_open", "read"):
            self.assertEqual(getattr(texts, name).__module__, "sharedlets.terms.texts")


class Examples(Case):

    def test_examples_of_the_document(self):
        self.assertEqual(
            [write(ROLL), write(fun("a", word("pair", use("a"), word("k")))), read_open("f(x)") == word("f", use("x"))],
            ['let x = f(g(x)) in x', 'fun a. pair(a, k())', True])
        part = read_open("let x = let y = fun a. f(y, a) in y; z = x in g(fun b. z, x)")
        self.assertEqual(
            [[name for name, term in part[1]], part_at(part, (0, 1)), part_at(part, (2, 0)), write(part_at(part, (0, 0)))],
            [['x', 'z'], ('name', 'y'), ('fun', 'b', ('name', 'z')), 'fun a. f(y, a)'])


if __name__ == "__main__":
    unittest.main()
