"""Tests of the texts of bodies and families: [14.1]."""

import random
import re
import unittest

from sharedlets.errors import InvalidFamily, ParseError
from sharedlets.families import texts
from sharedlets.families.families import Family, is_body
from sharedlets.families.texts import read_body, read_family, write_body, write_family
from tests.helper import (
    Case, chain, letters, naive_body_size, naive_is_body, naive_is_family, odd_bodies, odd_values, random_body, random_definitions, shared_tree,
    shown, small_values,
)

K = ("word", "k", ())
X = ("name", "x")
SIGNS = "ax .,;()[]=\nfunlet(-_A1"


def naive_text(body):
    match body:
        case ("name", x):
            return x
        case ("call", name, names):
            return name + "[" + ", ".join(names) + "]"
        case ("fun", x, inner):
            return "fun " + x + ". " + naive_text(inner)
    return body[1] + "(" + ", ".join(map(naive_text, body[2])) + ")"


def _read(text):
    """The value at the beginning of a text, and what is behind it, or None."""
    if begin := re.match(r"fun ([a-z]+)\. ", text):
        inner = _read(text[begin.end():])
        return inner and (("fun", begin[1], inner[0]), inner[1])
    if begin := re.match(r"([a-z]+)\[((?:[a-z]+(?:, [a-z]+)*)?)\]", text):
        return ("call", begin[1], tuple(begin[2].split(", ")) if begin[2] else ()), text[begin.end():]
    if begin := re.match(r"([a-z]+)\(\)", text):
        return ("word", begin[1], ()), text[begin.end():]
    if begin := re.match(r"([a-z]+)\(", text):
        inner, left = [], text[begin.end():]
        while found := _read(left):
            inner.append(found[0])
            if found[1].startswith(")"):
                return ("word", begin[1], tuple(inner)), found[1][1:]
            if not found[1].startswith(", "):
                return None
            left = found[1][2:]
        return None
    begin = re.match(r"[a-z]+", text)
    return begin and (("name", begin[0]), text[begin.end():])


def naive_read_body(text):
    """The body with a text, or None."""
    found = _read(text) if isinstance(text, str) else None
    return found[0] if found and found[1] == "" and naive_is_body(found[0]) else None


def naive_read_family(text):
    """The definitions of the family with a text, or None."""
    if not isinstance(text, str):
        return None
    rows = []
    for line in text.split("\n"):
        parts = re.fullmatch(r"([a-z]+)\[((?:[a-z]+(?:, [a-z]+)*)?)\] = (.*)", line)
        body = parts and naive_read_body(parts[3])
        if not body:
            return None
        rows.append((parts[1], (tuple(parts[2].split(", ")) if parts[2] else (), body)))
    names = [name for name, _ in rows]
    if names[0] != "main" or names[1:] != sorted(set(names[1:])) or "main" in names[1:]:
        return None
    if not naive_is_family(dict(rows)) or sum(naive_body_size(body) for _, (_, body) in rows) > 100:
        return None
    return dict(rows)


def changed_texts(text):
    """The text with one sign left out, put in, changed or exchanged with the next one."""
    for at in range(len(text) + 1):
        yield text[:at] + text[at + 1:]
        for sign in SIGNS:
            yield text[:at] + sign + text[at:]
            yield text[:at] + sign + text[at + 1:]
        yield text[:at] + text[at + 1:at + 2] + text[at:at + 1] + text[at + 2:]


def some_bodies(seed, many=150):
    rng = random.Random(seed)
    found = [random_body(rng, {"g": 2, "h": 0, "p": 3}, ("x", "y", "z"), rng.randrange(1, 7)) for _ in range(many)]
    return [body for body in found + odd_bodies() if naive_is_body(body)]


def some_families(seed, many=60):
    return [Family.of(one) for one in random_definitions(random.Random(seed), many)]


class Bodies(Case):

    def test_written_and_read(self):
        for body in some_bodies(151, 300):
            text = write_body(body)
            self.assertEqual(text, naive_text(body))
            self.assertEqual(read_body(text), body)

    def test_by_hand(self):
        for text, body in (
            ("x", X), ("k()", K), ("h[]", ("call", "h", ())), ("g[x]", ("call", "g", ("x",))), ("g[x, y]", ("call", "g", ("x", "y"))),
            ("fun x. x", ("fun", "x", X)), ("f(x, g[x], k())", ("word", "f", (X, ("call", "g", ("x",)), K))), ("main[]", ("call", "main", ())),
            ("fun a. f(fun b. g[b, a], x)", ("fun", "a", ("word", "f", (("fun", "b", ("call", "g", ("b", "a"))), X)))),
            ("main(main)", ("word", "main", (("name", "main"),))), ("f(f[f])", ("word", "f", (("call", "f", ("f",)),))),
            ("abcdefgh[abcdefgh]", ("call", "abcdefgh", ("abcdefgh",))),
        ):
            self.assertEqual([write_body(body), read_body(text)], [text, body])

    def test_texts_with_a_change(self):
        many = [0, 0]
        for body in some_bodies(152, 12) + [("fun", "a", ("word", "f", (("call", "g", ("a", "x")), ("call", "h", ()), K)))]:
            text = naive_text(body)
            if len(text) > 60:
                continue
            for other in changed_texts(text):
                wanted = naive_read_body(other)
                many[wanted is not None] += 1
                if wanted is None:
                    self.fails(ParseError, read_body, other)
                else:
                    self.assertEqual(read_body(other), wanted)
                    self.assertEqual(write_body(wanted), other)
        self.assertGreater(min(many), 500)

    def test_what_is_no_text(self):
        for text in (
            "", " ", "x ", " x", "x\n", "\nx", "f( x)", "f(x )", "f(x,y)", "f(x,  y)", "f(x, )", "f(, x)", "f(x y)", "f (x)", "f(x", "f(x))", "g[x",
            "g[x,y]", "g[ x]", "g[x ]", "g[x, ]", "g[, x]", "g [x]", "g[x]]", "g[x] ", "g[g[x]]", "g[k()]", "g[fun x. x]", "g[x, x]", "g[fun]", "fun[x]",
            "let[x]", "in[]", "fun()", "fun x x", "fun x.x", "fun  x. x", "fun x . x", "funx. x", "fun fun. x", "fun x.", "fun x. ", "fun X. x", "X", "x1",
            "a-b", "abcdefghi", "abcdefghi[]", "g[abcdefghi]", "fun", "let", "in", "let x = k() in x", "f(let x = k() in x)", "f(x, y, z, x)", "f(x)(y)",
            "f(x)[y]", "g[x](y)", "g[a, b, c, d, e, f, g, h, i]", "x y", "[x]", "(x)", "()", "[]", "x[", "x(", "f(g[x]", "f(g[x)]", "f(\n)", "f()\n",
        ):
            self.assertIsNone(naive_read_body(text), text)
            self.fails(ParseError, read_body, text)
        for value in small_values():
            wanted = naive_read_body(value)
            if wanted is None:
                self.fails(ParseError, read_body, value)
            else:
                self.assertEqual(read_body(value), wanted)
        self.fails(ParseError, read_body, shared_tree(130))
        self.fails(ParseError, read_body, K)

    def test_limits(self):
        for many in (99, 100, 101, 130):
            body = chain(many)
            text = naive_text(body)
            if many <= 100:
                self.assertEqual([write_body(body), read_body(text)], [text, body])
            else:
                self.fails(InvalidFamily, write_body, body)
                self.fails(ParseError, read_body, text)
        names = tuple(letters("v", at) for at in range(9))
        self.assertEqual(read_body("g[" + ", ".join(names[:8]) + "]"), ("call", "g", names[:8]))
        self.fails(ParseError, read_body, "g[" + ", ".join(names) + "]")
        self.fails(ParseError, read_body, "f(" * 100000)
        self.fails(ParseError, read_body, "f(" * 130 + "x" + ")" * 130)

    def test_errors_of_write_body(self):
        for value in small_values() + odd_bodies() + [Family(K), "x", ["name", "x"]]:
            if naive_is_body(value):
                self.assertEqual(write_body(value), naive_text(value))
            else:
                self.fails(InvalidFamily, write_body, value)
            self.assertIs(is_body(value), naive_is_body(value))
        self.fails(InvalidFamily, write_body, shared_tree(130))


class Families(Case):

    def test_written_and_read(self):
        for family in some_families(153, 150):
            text = write_family(family)
            names = ["main"] + [name for name in sorted(family.names) if name != "main"]
            lines = [f"{name}[{', '.join(family[name][0])}] = {naive_text(family[name][1])}" for name in names]
            self.assertEqual(text, "\n".join(lines))
            self.assertEqual(read_family(text), family)

    def test_texts_with_a_change(self):
        many = [0, 0]
        rows = ["main[] = fun a. g[a]\ng[x] = fun y. at(x, g[y])", "main[] = k()", "main[] = h[]\ng[] = main[]\nh[] = f()"]
        for text in rows + [text for text in map(write_family, some_families(154, 12)) if len(text) < 70]:
            self.assertIsNotNone(naive_read_family(text))
            for other in changed_texts(text):
                wanted = naive_read_family(other)
                many[wanted is not None] += 1
                if wanted is None:
                    self.fails(ParseError, read_family, other)
                else:
                    self.assertEqual(read_family(other).definitions, wanted)
                    self.assertEqual(write_family(read_family(other)), other)
        self.assertGreater(min(many), 400)

    def test_lines(self):
        main, g, h = "main[] = f(g[], h[])", "g[] = k()", "h[] = main[]"
        self.assertEqual(read_family("\n".join((main, g, h))).names, ("g", "h", "main"))
        for lines in ((main, h, g), (g, main, h), (g, h, main), (h, main, g), (main, g), (main, g, h, h), (main, g, h, ""), ("", main, g, h), (main, "", g, h),
                      (main, main, g, h), (main, g, g, h), (g, h), (main, g, h, "i[] = i[]"), (main, g, h, "i[] = j[]"), (main, g + " ", h), (main, " " + g, h)):
            self.assertIsNone(naive_read_family("\n".join(lines)))
            self.fails(ParseError, read_family, "\n".join(lines))
        # A definition ahead of main by its name comes behind it all the same.
        self.assertEqual(write_family(Family(K, a=((), K), z=((), K))), "main[] = k()\na[] = k()\nz[] = k()")

    def test_what_is_no_text(self):
        for text in (
            "", "\n", "main[] = ", "main[]", "main = k()", "main() = k()", "main[x] = x", "main[] =k()", "main[]= k()", "main[]  = k()", "main[] =  k()",
            "main[] = k()\n", "\nmain[] = k()", "main[] = k() = k()", "main[] = main[]", "main[] = x", "main[] = g[]", "main[] = k()\ng[x,y] = x",
            "main[] = k()\ng[x, x] = x", "main[] = k()\ng[x] = y", "main[] = k()\n[x] = x", "main[] = k()\ng[x = x", "main[] = k()\nfun[] = k()",
            "main[] = k()\nfun x. g[x] = x", "main[] = k()\nf(g[x] = x)", "main[] = k()\nlet x = k() in x", "main[] = k()\nlet[] = k()", "main[] = let x = k() in x",
            "main[] = k();g[] = k()", "main[] = k() & g[] = k()", "main[ ] = k()", "main [] = k()", "Main[] = k()",
            "main[] = k()\nabcdefghi[] = k()", "g[] = k()", "main[] = fun x. g[x, x]\ng[x, y] = x", "main[] = fun x. g[x]\ng[x, y] = x",
        ):
            self.assertIsNone(naive_read_family(text), text)
            self.fails(ParseError, read_family, text)
        for value in odd_values() + [Family(K), {"main": ((), K)}, ("main[] = k()",), ["main[] = k()"], None, 3]:
            self.fails(ParseError, read_family, value)

    def test_limits(self):
        for many, wanted in ((99, True), (100, False)):
            text = "\n".join(["main[] = k()"] + [f"{letters('q', at)}[] = main[]" for at in range(many)])
            lines = text.split("\n")
            text = "\n".join(lines[:1] + sorted(lines[1:]))
            if wanted:
                self.assertEqual(len(read_family(text)), 100)
            else:
                self.fails(ParseError, read_family, text)
        for many, wanted in ((40, True), (41, False)):
            text = f"main[] = {naive_text(chain(60))}\ng[] = {naive_text(chain(many))}"
            if wanted:
                self.assertEqual(write_family(read_family(text)), text)
            else:
                self.fails(ParseError, read_family, text)
        names = [letters("v", at) for at in range(9)]
        self.assertEqual(read_family(f"main[] = k()\ng[{', '.join(names[:8])}] = va").needs("g"), ("va",))
        self.fails(ParseError, read_family, f"main[] = k()\ng[{', '.join(names)}] = va")

    def test_errors_of_write_family(self):
        for value in odd_values() + ["main[] = k()", {"main": ((), K)}, ((), K)]:
            self.fails(InvalidFamily, write_family, value)

    def test_everything_stands_in_its_module(self):
        for name in "write_body write_family read_body read_family".split():
            self.assertEqual(getattr(texts, name).__module__, "sharedlets.families.texts")


class Examples(Case):

    def test_examples_of_the_document(self):
        kept = read_family("main[] = fun a. g[a]\ng[x] = fun y. at(x, g[x])")
        passed = read_family("main[] = fun a. g[a]\ng[x] = fun y. at(x, g[y])")
        self.assertEqual(
            [read_body("at(x, fun y. g[y, x])"), write_body(("call", "main", ())), write_family(passed).split("\n")],
            [('word', 'at', (('name', 'x'), ('fun', 'y', ('call', 'g', ('y', 'x'))))), 'main[]',
             ['main[] = fun a. g[a]', 'g[x] = fun y. at(x, g[y])']])
        self.assertIs(kept == passed, False)
        self.assertEqual(shown(kept.names), "('g', 'main')")


if __name__ == "__main__":
    unittest.main()
