"""Tests of names, open terms, terms, parts and paths: [0.1] to [0.9], [1.1]."""

import copy
import inspect
import random
import string
import unittest

from sharedlets.errors import InvalidName, InvalidOperation, InvalidTerm
from sharedlets.terms import terms
from sharedlets.terms.terms import (
    MAX_LEVELS, MAX_PARTS, binder_of, free_names, fun, head_path, is_name, is_open_term, is_term, let, let_of, levels_of,
    part_at, put_at, size_of, subterms, use, word, word_of,
)
from sharedlets.terms.texts import read, read_open
from tests.helper import (
    ROLL, TEXTS, Case, chain, exchanged, letters, naive_at, naive_binder, naive_free, naive_head, naive_is_open,
    naive_is_name, naive_is_term, naive_levels, naive_paths, naive_put, naive_size, odd_values, random_part, random_terms,
    shared_tree, shown, wide,
)

K = ("word", "k", ())
X = ("name", "x")
NO_NAMES = (
    "", "X", "Name", "a1", "a_b", "a b", " a", "a ", "a\n", "abcdefghi", "fun", "let", "in", "-", "a.b", None, True, 0, (),
    ("x",), ["x"], {"x": "x"}, X, K,
)


def open_terms():
    rng = random.Random(11)
    return [read_open(text) for text in TEXTS] + [random_part(rng, 5) for _ in range(60)]


def all_terms():
    return [read(text) for text in TEXTS] + random_terms(random.Random(12), 60)


def no_open_terms():
    return [value for value in odd_values() if not naive_is_open(value)]


def no_terms():
    part = ("let", (("x", X),), K)
    return no_open_terms() + [X, word("f", X), part, fun("x", word("f", use("x"), use("y"))), put_at(ROLL, (1,), use("y"))]


class Names(Case):

    def test_names(self):
        for value in ("a", "z", "x", "abcdefgh", "zzzzzzzz", "funny", "letter", "inn", "fu", "le", "i", "nuf", "word", "main"):
            self.assertIs(is_name(value), True, value)
        for value in NO_NAMES:
            self.assertIs(is_name(value), False, value)

    def test_each_sign(self):
        for sign in [chr(code) for code in range(32, 127)] + ["\n"]:
            lower = sign in string.ascii_lowercase
            for value in (sign, "ab" + sign, sign + "ab", "a" + sign + "b"):
                self.assertIs(is_name(value), lower)

    def test_lengths(self):
        for length in range(12):
            self.assertIs(is_name("q" * length), 1 <= length <= 8)

    def test_any_value(self):
        for value in odd_values():
            self.assertIs(is_name(value), naive_is_name(value))


class OpenTerms(Case):

    def test_constants(self):
        self.assertEqual((MAX_PARTS, MAX_LEVELS), (500, 120))

    def test_forms(self):
        for part in open_terms() + [X, K, ("fun", "x", X), ("let", (("x", X),), X)]:
            self.assertIs(is_open_term(part), True)

    def test_names_in_it(self):
        for name in NO_NAMES + ("a", "abcdefgh", "inn"):
            good = naive_is_name(name)
            for part in (("name", name), ("word", name, ()), ("fun", name, K), ("let", ((name, K),), K)):
                self.assertIs(is_open_term(part), good, part)

    def test_words_have_up_to_three_terms(self):
        for many in range(6):
            self.assertIs(is_open_term(("word", "f", (X,) * many)), many <= 3)

    def test_blocks_have_up_to_100_definitions(self):
        for many in (0, 1, 2, 99, 100, 101, 150):
            pairs = tuple((letters("q", at), K) for at in range(many))
            self.assertIs(is_open_term(("let", pairs, K)), 1 <= many <= 100)

    def test_definitions_have_different_names(self):
        self.assertIs(is_open_term(("let", (("x", K), ("y", X), ("x", K)), K)), False)
        self.assertIs(is_open_term(("let", (("x", K), ("x", X)), K)), False)
        self.assertIs(is_open_term(("let", (("z", K), ("y", X), ("a", K)), K)), True)
        self.assertIs(is_open_term(("let", (("x", K),), ("let", (("x", K),), K))), True)

    def test_parts(self):
        for many in (1, 2, 3, 4, 499, 500, 501, 502, 700):
            self.assertIs(is_open_term(wide(many)), many <= 500)
            self.assertIs(is_open_term(put_free(wide(many))), many <= 500)

    def test_parts_of_definitions_count(self):
        for many in (247, 248, 249, 250):
            part = ("let", (("x", wide(many)), ("y", K)), wide(250))
            self.assertIs(is_open_term(part), 2 + many + 250 <= 500)

    def test_levels(self):
        for levels in (2, 3, 119, 120, 121, 130):
            self.assertIs(is_open_term(chain(levels)), levels <= 120)
            self.assertIs(is_open_term(("let", (("x", chain(levels - 1)),), K)), levels <= 120)
            self.assertIs(is_open_term(("let", (("x", K),), chain(levels))), levels <= 119)

    def test_shared_parts_are_counted_each_time(self):
        self.assertIs(is_open_term(shared_tree(8)), True)
        self.assertIs(is_open_term(shared_tree(9)), False)
        self.assertIs(is_open_term(shared_tree(130)), False)

    def test_any_value(self):
        for value in odd_values():
            good = naive_is_open(value)
            self.assertIs(is_open_term(value), good, shown(value))
            self.assertIs(is_term(value), good and naive_is_term(value), shown(value))

    def test_one_part_exchanged(self):
        others = [
            None, True, 0, "", "x", "in", "abcdefghi", (), [], {}, ("x",), X, K, ("name", "X"), ["name", "x"], (X,), (X,) * 4,
            (("x", K), ("x", K)), (("y", K),),
        ]
        for text in TEXTS[:16:3]:
            for value in exchanged(read(text), others):
                self.assertIs(is_open_term(value), naive_is_open(value), shown(value))
                self.assertIs(is_term(value), naive_is_term(value), shown(value))


def put_free(part):
    """The part with a free name for each word without terms."""
    if part == K or part == ("word", "f", ()):
        return X
    return ("word", part[1], tuple(put_free(term) for term in part[2]))


class Terms(Case):

    def test_terms(self):
        for term in all_terms():
            self.assertIs(is_term(term), True)

    def test_free_names(self):
        for text in ("x", "f(x)", "fun a. b", "let x = y in k()", "let x = k() in y", "f(let x = k() in x, x)",
                     "f(fun a. a, a)", "let x = fun a. k(); y = f(a) in x", "fun a. let b = f(c) in a"):
            self.assertIs(is_open_term(read_open(text)), True)
            self.assertIs(is_term(read_open(text)), False, text)

    def test_definitions_without_head(self):
        for text in ("let x = x in k()", "let x = x in x", "let x = y; y = x in k()", "let x = y; y = z; z = y in k()",
                     "fun a. let x = let y = x in y in a", "f(fun a. let x = x in a)", "let x = let x = x in k() in k()",
                     "let x = let y = k() in x in k()", "let a = k(); x = x; b = k() in f(a, b)",
                     "let x = f(let y = y in k()) in x", "let x = k() in let y = let z = y in z in x",
                     "let x = f(x); y = let z = z in x in x"):
            self.assertIs(is_open_term(read_open(text)), True)
            self.assertIs(is_term(read_open(text)), False, text)

    def test_definitions_with_head(self):
        for text in ("let x = y; y = k() in k()", "fun a. let x = a in k()", "let x = let y = k() in y in k()",
                     "let x = f(x) in k()", "let x = let x = k() in x in x", "fun x. let y = x in y",
                     "let x = let y = x; z = f(y) in z in k()", "fun x. let x = fun x. x in x"):
            self.assertIs(is_term(read(text)), True, text)

    def test_any_open_term(self):
        rng = random.Random(13)
        results = []
        for _ in range(600):
            part = random_part(rng, rng.randrange(1, 6), ("a", "b", "c")[:rng.randrange(1, 4)])
            results.append(is_term(part))
            self.assertIs(results[-1], naive_is_term(part), part)
        self.assertGreater(results.count(True), 50)
        self.assertGreater(results.count(False), 50)

    def test_at_the_limits(self):
        self.assertIs(is_term(wide(500)), True)
        self.assertIs(is_term(chain(120)), True)
        names = [letters("q", at) for at in range(100)]
        row = tuple((name, ("name", other)) for name, other in zip(names, names[1:] + ["a"]))
        self.assertIs(is_term(fun("a", ("let", row, use(names[0])))), True)
        self.assertIs(is_term(("let", row[:-1] + ((names[-1], use(names[0])),), K)), False)
        self.assertEqual(head_path(fun("a", ("let", row, use(names[0]))), ()), ())
        self.assertEqual(head_path(fun("a", ("let", row, use(names[0]))), (0,)), (0, 99))


class Making(Case):

    def test_made_parts(self):
        self.assertEqual(use("x"), ("name", "x"))
        self.assertEqual(word("k"), ("word", "k", ()))
        self.assertEqual(word("f", X), ("word", "f", (X,)))
        self.assertEqual(word("f", X, K, X), ("word", "f", (X, K, X)))
        self.assertEqual(word_of("f", (K, X)), ("word", "f", (K, X)))
        self.assertEqual(word_of("f", ()), ("word", "f", ()))
        self.assertEqual(fun("abcdefgh", X), ("fun", "abcdefgh", X))
        self.assertEqual(let(X, x=K), ("let", (("x", K),), X))
        self.assertEqual(let_of(X, {"x": K}), ("let", (("x", K),), X))

    def test_definitions_ascend_by_names(self):
        wanted = ("let", (("a", K), ("aa", X), ("b", K), ("z", X)), X)
        self.assertEqual(let(X, z=X, aa=X, b=K, a=K), wanted)
        self.assertEqual(let_of(X, {"z": X, "aa": X, "b": K, "a": K}), wanted)
        self.assertEqual(let_of(X, {"term": K, "name": X}), ("let", (("name", X), ("term", K)), X))
        self.assertEqual(let(X, variable=K, name=X), ("let", (("name", X), ("variable", K)), X))

    def test_results_of_other_parts(self):
        for part in open_terms():
            self.assertEqual(word("f", part), ("word", "f", (part,)))
            self.assertEqual(fun("a", part), ("fun", "a", part))
            self.assertEqual(let(part, a=part), ("let", (("a", part),), part))

    def test_invalid_names(self):
        for name in NO_NAMES:
            self.fails(InvalidName, use, name)
            self.fails(InvalidName, word, name)
            self.fails(InvalidName, word, name, X, None)
            self.fails(InvalidName, word_of, name, ())
            self.fails(InvalidName, fun, name, X)
        for value in odd_values():
            if not naive_is_name(value):
                self.fails(InvalidName, use, value)
                for other in (K, None, (), wide(501)):
                    self.fails(InvalidName, word, value, other)
                    self.fails(InvalidName, word_of, value, other)
                    self.fails(InvalidName, fun, value, other)

    def test_invalid_terms(self):
        for value in no_open_terms():
            self.fails(InvalidTerm, word, "f", value)
            self.fails(InvalidTerm, word, "f", X, K, value)
            self.fails(InvalidTerm, word_of, "f", (X, value))
            self.fails(InvalidTerm, fun, "x", value)
            self.fails(InvalidTerm, let, value, x=K)
            self.fails(InvalidTerm, let, K, x=value)
            self.fails(InvalidTerm, let_of, K, {"a": K, "b": value})
            self.fails(InvalidTerm, let_of, value, {"a": K})

    def test_terms_must_be_a_tuple(self):
        for value in (None, True, 0, "", "abc", [], [X], {}, {"x": X}, X, K, "x", ((), ())):
            self.fails(InvalidTerm, word_of, "f", value)

    def test_definitions_must_be_a_dict_with_names(self):
        for value in odd_values():
            if not isinstance(value, dict):
                self.fails(InvalidName, let_of, K, value)
        for key in NO_NAMES:
            if isinstance(key, (str, int, tuple, type(None))):
                self.fails(InvalidName, let_of, K, {key: K})
                self.fails(InvalidName, let_of, K, {"x": K, key: None})
                self.fails(InvalidName, let_of, K, {key: None, "x": K})
        self.fails(InvalidName, let, K, X=K)
        self.fails(InvalidName, let, K, a=None, a1=K)

    def test_order_of_errors_in_blocks(self):
        self.fails(InvalidTerm, let_of, None, {"X": K})
        self.fails(InvalidTerm, let_of, None, None)
        self.fails(InvalidName, let_of, K, {"a": None, "fun": K})
        self.fails(InvalidTerm, let_of, K, {"a": None})
        self.fails(InvalidTerm, let, None, X=K)
        many = {letters("q", at): K for at in range(101)}
        self.fails(InvalidName, let_of, K, {**many, "X": K})
        self.fails(InvalidTerm, let_of, K, many)

    def test_too_many(self):
        self.fails(InvalidTerm, let, K)
        self.fails(InvalidTerm, let_of, K, {})
        self.fails(InvalidTerm, word, "f", X, X, X, X)
        self.fails(InvalidTerm, word_of, "f", (X, X, X, X))
        names = [letters("q", at) for at in range(101)]
        self.assertEqual(len(let_of(K, {name: K for name in names[:100]})[1]), 100)
        self.fails(InvalidTerm, let_of, K, {name: K for name in names})
        self.assertEqual(size_of(fun("x", wide(499))), 500)
        self.fails(InvalidTerm, fun, "x", wide(500))
        self.assertEqual(size_of(word("f", wide(249), wide(250))), 500)
        self.fails(InvalidTerm, word, "f", wide(250), wide(250))
        self.assertEqual(size_of(let(wide(200), x=wide(299))), 500)
        self.fails(InvalidTerm, let, wide(200), x=wide(300))
        self.assertEqual(levels_of(fun("x", chain(119))), 120)
        self.fails(InvalidTerm, fun, "x", chain(120))
        self.fails(InvalidTerm, word, "f", K, chain(120))
        self.fails(InvalidTerm, let, chain(120), x=K)
        self.fails(InvalidTerm, let, K, x=chain(120))
        self.assertEqual(levels_of(let(K, x=chain(119))), 120)


class Parts(Case):

    def test_free_names(self):
        self.assertEqual(free_names(read_open("f(z, fun a. g(b, a), y)")), ("b", "y", "z"))
        self.assertEqual(free_names(read_open("f(x, x, fun x. x)")), ("x",))
        self.assertEqual(free_names(read_open("let x = f(x, y); z = u in g(x, z, fun y. y)")), ("u", "y"))
        self.assertEqual(free_names(read_open("f(let x = k() in x, x)")), ("x",))
        self.assertEqual(free_names(read_open("x(k())")), ())
        for part in open_terms():
            self.assertEqual(free_names(part), naive_free(part))

    def test_sizes_and_levels(self):
        self.assertEqual((size_of(X), levels_of(X), size_of(K), levels_of(K)), (1, 1, 1, 1))
        for many in (1, 60, 120):
            self.assertEqual((size_of(chain(many)), levels_of(chain(many))), (many, many))
        self.assertEqual((size_of(wide(500)), levels_of(wide(500))), (500, naive_levels(wide(500))))
        for part in open_terms():
            self.assertEqual((size_of(part), levels_of(part)), (naive_size(part), naive_levels(part)))

    def test_subterms(self):
        for part in open_terms() + [wide(500), chain(120)]:
            rows = list(subterms(part))
            self.assertEqual(rows, [(path, naive_at(part, path)) for path in naive_paths(part)])
            self.assertEqual([path for path, _ in rows], sorted({path for path, _ in rows}))
        rows = subterms(ROLL)
        self.assertTrue(inspect.isgenerator(rows))
        self.assertEqual(next(rows), ((), ROLL))
        self.assertEqual(next(rows)[0], (0,))

    def test_part_at(self):
        for part in open_terms():
            for path in naive_paths(part):
                self.assertEqual(part_at(part, path), naive_at(part, path))

    def test_put_at(self):
        rng = random.Random(14)
        for part in open_terms():
            for path in naive_paths(part):
                other = random_part(rng, 3)
                self.assertEqual(put_at(part, path, other), naive_put(part, path, other))
                self.assertEqual(part_at(put_at(part, path, other), path), other)
                self.assertEqual(put_at(part, path, part_at(part, path)), part)

    def test_put_at_takes_free_names(self):
        self.assertEqual(put_at(fun("a", K), (0,), use("a")), fun("a", use("a")))
        self.assertEqual(free_names(put_at(fun("a", K), (0,), use("b"))), ("b",))
        self.assertEqual(put_at(ROLL, (), X), X)

    def test_binder_of(self):
        shadow = read_open("fun a. let b = f(a, c); a = k() in g(a, fun a. h(a, b, c))")
        self.assertEqual(binder_of(shadow, (0, 0, 0)), (0,))
        self.assertEqual(binder_of(shadow, (0, 0, 1)), None)
        self.assertEqual(binder_of(shadow, (0, 2, 0)), (0,))
        self.assertEqual(binder_of(shadow, (0, 2, 1, 0, 0)), (0, 2, 1))
        self.assertEqual(binder_of(shadow, (0, 2, 1, 0, 1)), (0,))
        self.assertEqual(binder_of(fun("a", let(use("a"), b=use("a"))), (0, 1)), ())
        self.assertEqual(binder_of(X, ()), None)
        for part in open_terms():
            for path in naive_paths(part):
                if naive_at(part, path)[0] == "name":
                    found = naive_binder(part, path)
                    self.assertEqual(binder_of(part, path), None if found is None else found[0])
                else:
                    self.fails(InvalidOperation, binder_of, part, path)

    def test_head_path(self):
        names = read("let x = let y = z; u = k() in y; z = f(x); w = x in fun a. pair(a, w)")
        self.assertEqual(head_path(names, ()), (3,))
        self.assertEqual(head_path(names, (0,)), (1,))
        self.assertEqual(head_path(names, (0, 0)), (1,))
        self.assertEqual(head_path(names, (0, 1)), (0, 1))
        self.assertEqual(head_path(names, (3, 0, 0)), (3, 0, 0))
        self.assertEqual(head_path(names, (3, 0, 1)), (1,))
        for term in all_terms():
            for path in naive_paths(term):
                self.assertEqual(head_path(term, path), naive_head(term, path))

    def test_invalid_terms(self):
        for value in no_open_terms():
            self.fails(InvalidTerm, free_names, value)
            self.fails(InvalidTerm, size_of, value)
            self.fails(InvalidTerm, levels_of, value)
            self.fails(InvalidTerm, part_at, value, ())
            self.fails(InvalidTerm, part_at, value, None)
            self.fails(InvalidTerm, put_at, value, None, None)
            self.fails(InvalidTerm, put_at, value, (), K)
            self.fails(InvalidTerm, put_at, K, (), value)
            self.fails(InvalidTerm, put_at, ROLL, (0, 0), value)
            self.fails(InvalidTerm, binder_of, value, None)
            self.fails(InvalidTerm, binder_of, value, ())
            rows = subterms(value)
            self.fails(InvalidTerm, next, rows)
        for value in no_terms():
            self.fails(InvalidTerm, head_path, value, ())
            self.fails(InvalidTerm, head_path, value, "x")

    def test_invalid_paths(self):
        wrong = [None, True, 0, "", "0", [], [0], {}, (2,), (0, 1), (0, 0, 0, 0), (-1,), (0, -1), (0, None), (True,), (False,),
                 (0, False), ("0",), ((0,),), (0, 0, 1), (10 ** 39,), X]
        for path in wrong:
            self.fails(InvalidOperation, part_at, ROLL, path)
            self.fails(InvalidOperation, put_at, ROLL, path, K)
            self.fails(InvalidOperation, put_at, ROLL, path, None)
            self.fails(InvalidOperation, binder_of, ROLL, path)
            self.fails(InvalidOperation, head_path, ROLL, path)
        self.fails(InvalidOperation, part_at, X, (0,))
        self.fails(InvalidOperation, part_at, K, (0,))
        self.fails(InvalidOperation, part_at, fun("a", K), (1,))
        self.fails(InvalidOperation, put_at, let(K, a=K, b=K), (3,), K)
        for path in odd_values():
            if path not in ((), (0,)):
                self.fails(InvalidOperation, part_at, ROLL, path)
                self.fails(InvalidOperation, head_path, ROLL, path)

    def test_results_that_are_too_large(self):
        part = word("f", wide(299), K)
        self.assertEqual(size_of(put_at(part, (1,), wide(200))), 500)
        self.fails(InvalidTerm, put_at, part, (1,), wide(201))
        self.fails(InvalidOperation, put_at, part, (2,), wide(201))
        deep = fun("x", fun("x", K))
        self.assertEqual(levels_of(put_at(deep, (0, 0), chain(118))), 120)
        self.fails(InvalidTerm, put_at, deep, (0, 0), chain(119))
        self.assertEqual(put_at(wide(500), (), wide(500)), wide(500))


class Conventions(Case):

    def test_arguments_are_not_changed(self):
        inner = {"b": word("f", X), "a": K}
        kept = copy.deepcopy(inner)
        made = let_of(X, inner)
        self.assertEqual((inner, list(inner)), (kept, ["b", "a"]))
        inner["c"] = K
        inner["a"] = X
        self.assertEqual(made, ("let", (("a", K), ("b", word("f", X))), X))
        for wrong in ({"b": K, "a": [X]}, {"b": [K], "A": K}, {"X": [1, {"y": [2]}]}):
            kept = copy.deepcopy(wrong)
            with self.assertRaises((InvalidName, InvalidTerm)):
                let_of(X, wrong)
            self.assertEqual(wrong, kept)
        terms_in_list = [X, [K]]
        self.fails(InvalidTerm, word_of, "f", terms_in_list)
        self.assertEqual(terms_in_list, [X, [K]])

    def test_equal_calls_have_equal_results(self):
        for part in open_terms()[:20]:
            self.assertEqual(free_names(part), free_names(part))
            self.assertEqual(list(subterms(part)), list(subterms(part)))

    def test_results_are_tuples(self):
        self.assertIs(type(free_names(word("f", X))), tuple)
        self.assertIs(type(word("f", X)[2]), tuple)
        self.assertIs(type(let(X, x=K)[1]), tuple)
        self.assertIs(type(head_path(ROLL, ())), tuple)
        self.assertIs(type(binder_of(ROLL, (1,))), tuple)
        self.assertEqual([type(path) for path, _ in subterms(ROLL)], [tuple] * 5)

    def test_everything_stands_in_its_module(self):
        names = ("is_name is_open_term is_term use word word_of fun let let_of free_names size_of levels_of subterms part_at "
                 "put_at binder_of head_path")
        for name in names.split():
            self.assertEqual(getattr(terms, name).__module__, "sharedlets.terms.terms")
            self.assertTrue(inspect.isfunction(getattr(terms, name)))


class Examples(Case):

    def test_examples_of_the_document(self):
        self.assertEqual(
            [let(use("x"), x=word("f", word("g", use("x")))) == ROLL, size_of(ROLL), levels_of(ROLL),
             [path for path, part in subterms(ROLL)]],
            [True, 5, 4, [(), (0,), (0, 0), (0, 0, 0), (1,)]])
        self.assertEqual(
            [part_at(ROLL, (0, 0)), binder_of(ROLL, (0, 0, 0)), head_path(ROLL, ()), free_names(part_at(ROLL, (0,)))],
            [('word', 'g', (('name', 'x'),)), (), (0,), ('x',)])
        self.assertEqual(
            [is_term(let(use("x"), x=use("y"), y=use("x"))), is_term(put_at(ROLL, (0, 0, 0), fun("x", use("x"))))],
            [False, True])


if __name__ == "__main__":
    unittest.main()
