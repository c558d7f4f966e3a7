"""Tests of changes: [11.1].

Each change is worked out in another way, too: all functions and definitions get names of their own, so that nothing
can come to belong to something else; then the change is made, and the old names are written again.
"""

import itertools
import random
import unittest

from sharedlets.change import steps
from sharedlets.change.steps import (
    folded, joined_names, moved_in, moved_out, renamed_at, unfolded, with_definition, without_unused,
)
from sharedlets.errors import InvalidName, InvalidNumber, InvalidOperation, InvalidTerm, TooMany, UnknownName
from sharedlets.graphs.graphs import Graph
from sharedlets.graphs.made import graph_of
from sharedlets.least.least import least
from sharedlets.terms.terms import let, use, word
from sharedlets.terms.texts import read, read_open, write
from tests.helper import (
    APART, LONG, ROLL, TEXTS, Case, chain, check_errors, doubled, letters, naive_at, naive_binder, naive_inner, naive_is_name,
    naive_is_open, naive_is_term, naive_paths, naive_put, odd_values, random_part, random_terms, rich_terms,
)

K = ("word", "k", ())
X = ("name", "x")

MORE = (
    "let x = f(y); y = g(x) in f(y)",
    "let x = f(y); y = f(x) in x",
    "let x = f(y, x); y = f(x, y) in pair(x, y)",
    "fun a. let k = f() in at(a, k)",
    "let k = f() in at(h(), k)",
    "fun a. let k = f(a) in fun b. at(b, k)",
    "let x = let y = f(x) in g(y) in let z = h(x) in pair(z, let u = k() in u)",
    "let x = let y = f(x); x = g(y) in x; z = x in pair(x, z)",
    "fun a. f(let x = g(a) in fun a. h(x, a), a)",
    "let x = let y = k() in f(y); y = m() in pair(x, y)",
    "let x = f(z); y = f(z); z = g(x, y) in pair(x, y)",
    "let x = fun z. f(z, x); y = fun z. f(z, y) in pair(x, y)",
    "let x = fun y. f(y, x); y = fun y. f(y, x) in pair(x, y)",
    "let x = fun a. f(x, y); y = fun x. f(x, y) in pair(x, y)",
    "let x = fun x. f(x); y = fun x. f(y) in pair(x, y)",
    "let x = let x = k() in f(x); y = let x = k() in f(y) in pair(x, y)",
    "let x = f(y); y = g(x); u = g(v); v = f(u); w = k() in pair(x, w)",
    "let x = let u = k(); v = h(v, u) in m() in let y = k() in x",
    "fun a. let x = a; y = x; z = y in pair(z, fun a. pair(x, a))",
    "let x = k() in let x = f(x) in let x = g(x) in x",
    "let x = f(let x = g(k()) in x) in pair(x, fun x. x)",
)


# Terms whose functions and definitions have names of their own; those that begin with "?" belong to nothing.

def unique(part, fresh, olds, names=None):
    """The part with a number for each name of a function or definition; olds gets the names before."""
    names = {} if names is None else names
    if part[0] == "name":
        return ("name", names.get(part[1], "?" + part[1]))
    if part[0] == "word":
        return ("word", part[1], tuple(unique(one, fresh, olds, names) for one in part[2]))
    bound = [part[1]] if part[0] == "fun" else [name for name, _ in part[1]]
    inner = {**names, **{name: str(next(fresh)) for name in bound}}
    olds.update({inner[name]: name for name in bound})
    if part[0] == "fun":
        return ("fun", inner[part[1]], unique(part[2], fresh, olds, inner))
    rows = tuple((inner[name], unique(one, fresh, olds, inner)) for name, one in part[1])
    return ("let", rows, unique(part[2], fresh, olds, inner))


def plain(part, olds):
    """The part with the names before."""
    if part[0] == "name":
        return ("name", part[1][1:] if part[1].startswith("?") else olds[part[1]])
    if part[0] == "word":
        return ("word", part[1], tuple(plain(one, olds) for one in part[2]))
    if part[0] == "fun":
        return ("fun", olds[part[1]], plain(part[2], olds))
    return ("let", tuple((olds[name], plain(one, olds)) for name, one in part[1]), plain(part[2], olds))


def is_clean(made, olds):
    """Whether the written term has each name of a block once, and all uses belong to what they belong to here."""
    term = plain(made, olds)
    for path in naive_paths(term):
        one = naive_at(term, path)
        if one[0] == "let" and len(dict(one[1])) < len(one[1]):
            return False
        if one[0] == "name" and not naive_at(made, path)[1].startswith("?"):
            owner = naive_binder(made, path)
            if owner is None or naive_binder(term, path) != owner:
                return False
    return True


class Refused(Exception):
    """A change is not as told."""


class Naive:
    """Changes of one term."""

    def __init__(self, term):
        self.fresh = itertools.count()
        self.olds = {}
        self.term = unique(term, self.fresh, self.olds)

    def result(self, made):
        """The term with the old names, or the class of the error."""
        if not is_clean(made, self.olds):
            return InvalidOperation
        term = plain(made, self.olds)
        return term if naive_is_term(term) else InvalidTerm

    def at(self, path, *kinds):
        one = naive_at(self.term, path)
        if one[0] not in kinds:
            raise Refused
        return one

    def unfolded(self, path):
        self.at(path, "name")
        owner, number = naive_binder(self.term, path)
        if number is None:
            raise Refused
        return self.result(naive_put(self.term, path, naive_at(self.term, owner + (number,))))

    def folded(self, path, name):
        for length in range(len(path) - 1, -1, -1):
            block = naive_at(self.term, path[:length])
            if block[0] == "let" and name in [self.olds[one] for one, _ in block[1]]:
                number = [self.olds[one] for one, _ in block[1]].index(name)
                if not self.are_equal(path, path[:length] + (number,)):
                    raise Refused
                return self.result(naive_put(self.term, path, ("name", block[1][number][0])))
        raise Refused

    def are_equal(self, path, other):
        """Whether two parts are equal, and their uses belong to the same."""
        one, two = naive_at(self.term, path), naive_at(self.term, other)
        if plain(one, self.olds) != plain(two, self.olds):
            return False
        for inner in naive_paths(one):
            if naive_at(one, inner)[0] == "name":
                (left, first), (right, second) = naive_binder(self.term, path + inner), naive_binder(self.term, other + inner)
                if left[:len(path)] == path and right[:len(other)] == other:
                    left, right = left[len(path):], right[len(other):]
                if (left, first) != (right, second):
                    return False
        return True

    def renamed_at(self, path, old, new):
        one = self.at(path, "fun", "let")
        bound = [one[1]] if one[0] == "fun" else [name for name, _ in one[1]]
        named = [name for name in bound if self.olds[name] == old]
        if not named:
            return UnknownName
        self.olds[named[0]] = new
        return self.result(self.term)

    def moved_out(self, path):
        block = self.at(path, "let")
        if path == ():
            raise Refused
        outer = naive_at(self.term, path[:-1])
        if outer[0] != "let":
            inner = naive_put(outer, path[-1:], block[2])
            return self.result(naive_put(self.term, path[:-1], ("let", block[1], inner)))
        rows = list(outer[1])
        if path[-1] == len(rows):
            made = ("let", tuple(rows) + block[1], block[2])
        else:
            rows[path[-1]:path[-1] + 1] = [*block[1], (rows[path[-1]][0], block[2])]
            made = ("let", tuple(rows), outer[2])
        return self.result(naive_put(self.term, path[:-1], made))

    def moved_in(self, path, index):
        block = self.at(path, "let")
        if block[2][0] not in ("word", "fun"):
            raise Refused
        inner = naive_inner(block[2])
        if index not in range(len(inner)):
            return InvalidNumber
        made = naive_put(block[2], (index,), ("let", block[1], inner[index]))
        return self.result(naive_put(self.term, path, made))

    def with_definition(self, path, name, part):
        block = self.at(path, "let")
        own = str(next(self.fresh))
        self.olds[own] = name
        row = (own, unique(part, self.fresh, self.olds))
        return self.result(naive_put(self.term, path, ("let", block[1] + (row,), block[2])))

    def without_unused(self):
        rows = {}
        for path in naive_paths(self.term):
            one = naive_at(self.term, path)
            rows.update(dict(one[1]) if one[0] == "let" else {})
        used, waiting = set(), [self.term]
        while waiting:
            part = waiting.pop()
            if part[0] == "name" and part[1] in rows and part[1] not in used:
                used.add(part[1])
                waiting.append(rows[part[1]])
            waiting += [part[2]] if part[0] == "let" else naive_inner(part)

        def kept(part):
            if part[0] == "name":
                return part
            if part[0] == "word":
                return ("word", part[1], tuple(map(kept, part[2])))
            if part[0] == "fun":
                return ("fun", part[1], kept(part[2]))
            left = tuple((name, kept(one)) for name, one in part[1] if name in used)
            return ("let", left, kept(part[2])) if left else kept(part[2])

        return self.result(kept(self.term))

    def joined_names(self, path, groups):
        block = self.at(path, "let")
        own = {self.olds[name]: name for name, _ in block[1]}
        told = [name for group in groups for name in group]
        if len(set(told)) < len(told) or not set(told) <= set(own) or min(map(len, groups), default=2) < 2:
            raise Refused
        firsts = {own[name]: own[group[0]] for group in groups for name in group[1:]}

        def written(part):
            if part[0] == "name":
                return ("name", firsts.get(part[1], part[1]))
            if part[0] == "word":
                return ("word", part[1], tuple(map(written, part[2])))
            if part[0] == "fun":
                return ("fun", part[1], written(part[2]))
            return ("let", tuple((name, written(one)) for name, one in part[1]), written(part[2]))

        made = written(self.term)
        if not is_clean(made, self.olds):
            raise Refused
        rows = dict(naive_at(made, path)[1])
        if any(plain(rows[one], self.olds) != plain(rows[two], self.olds) for one, two in firsts.items()):
            raise Refused
        left = tuple((name, one) for name, one in rows.items() if name not in firsts)
        return self.result(naive_put(made, path, ("let", left, naive_at(made, path)[2])))


def tried(term, name, *args):
    """What the change does when it is worked out in the other way: the term, or the class of the error."""
    try:
        return getattr(Naive(term), name)(*args)
    except Refused:
        return InvalidOperation


def some_terms(seed, many=25, levels=4):
    rng = random.Random(seed)
    found = [read(text) for text in TEXTS + MORE] + random_terms(rng, many, levels) + rich_terms(rng, 12, 5, 20)
    found += [doubled(rng, term) for term in found]
    return [term for term in found if naive_is_open(term) and len(naive_paths(term)) < 70]


class Changes(Case):

    def setUp(self):
        self.results = {}

    def check(self, call, term, *args):
        """Compare a change with the other way; return the new term, or None where an error is right."""
        wanted = tried(term, call.__name__, *args)
        kind = wanted.__name__ if isinstance(wanted, type) else "done"
        self.results[kind] = self.results.get(kind, 0) + 1
        if isinstance(wanted, type):
            values = {InvalidNumber: ("value", args[-1]), UnknownName: ("name", args[1] if len(args) > 1 else None)}
            self.fails((wanted, values[wanted]) if wanted in values else wanted, call, term, *args)
            return None
        made = call(term, *args)
        self.assertEqual(made, wanted)
        self.check_alike(term, made)
        return made

    def check_alike(self, term, made):
        try:
            before, behind = graph_of(term), graph_of(made)
        except TooMany:
            return
        self.assertEqual(least(before), least(behind))

    def check_many(self, **least_of):
        for kind, many in least_of.items():
            self.assertGreater(self.results.get(kind, 0), many, kind)

    def test_unfolded(self):
        for term in some_terms(111):
            for path in naive_paths(term):
                self.check(unfolded, term, path)
        self.check_many(done=300, InvalidOperation=500)

    def test_folded(self):
        for term in some_terms(112, 15):
            names = sorted({name for path in naive_paths(term) for name, _ in (
                naive_at(term, path)[1] if naive_at(term, path)[0] == "let" else ())})
            for path in naive_paths(term):
                for name in names[:5] + ["none"]:
                    self.check(folded, term, path, name)
        self.check_many(done=30, InvalidOperation=500, InvalidTerm=100)

    def test_what_is_unfolded_is_folded_again(self):
        many = 0
        for term in some_terms(113):
            for path in naive_paths(term):
                one = naive_at(term, path)
                if one[0] == "name" and isinstance(made := tried(term, "unfolded", path), tuple):
                    again = self.check(folded, made, path, one[1])
                    if again is not None:
                        self.assertEqual(again, term)
                        many += 1
        self.assertGreater(many, 300)

    def test_renamed_at(self):
        for term in some_terms(114):
            paths = naive_paths(term)
            names = sorted({naive_at(term, path)[1] for path in paths if naive_at(term, path)[0] in ("name", "fun")})
            for path in paths:
                one = naive_at(term, path)
                bound = {"fun": one[1:2], "let": [row[0] for row in one[1]] if one[0] == "let" else ()}.get(one[0], ("x",))
                for old in [*bound[:3], "none"]:
                    for new in [*names[:4], "other"]:
                        made = self.check(renamed_at, term, path, old, new)
                        if old == new and made is not None:
                            self.assertEqual(made, term)
        self.check_many(done=500, InvalidOperation=500, UnknownName=500)

    def test_moved_out(self):
        for term in some_terms(115, 80):
            for path in naive_paths(term):
                self.check(moved_out, term, path)
        self.check_many(done=80, InvalidOperation=500)

    def test_moved_in(self):
        for term in some_terms(116, 60):
            for path in naive_paths(term):
                for index in (0, 1, 2, 3, -1):
                    self.check(moved_in, term, path, index)
        self.check_many(done=40, InvalidOperation=500, InvalidNumber=50)

    def test_moved_out_is_moved_in_again(self):
        many = 0
        for term in some_terms(117, 80):
            for path in naive_paths(term):
                if path and naive_at(term, path)[0] == "let" and naive_at(term, path[:-1])[0] in ("word", "fun"):
                    made = self.check(moved_out, term, path)
                    if made is not None:
                        self.assertEqual(self.check(moved_in, made, path[:-1], path[-1]), term)
                        many += 1
        self.assertGreater(many, 20)

    def test_with_definition(self):
        rng = random.Random(118)
        for term in some_terms(118):
            for path in naive_paths(term):
                if naive_at(term, path)[0] != "let" and rng.random() < 0.9:
                    continue
                for name in ("x", "new", naive_at(term, path)[1][0][0] if naive_at(term, path)[0] == "let" else "b"):
                    part = random_part(rng, 3, ("a", "b", "x", "g"))
                    made = self.check(with_definition, term, path, name, part)
                    if made is not None:
                        self.assertEqual(naive_at(made, path)[1][-1], (name, part))
        self.check_many(done=60, InvalidOperation=100, InvalidTerm=30)

    def test_without_unused(self):
        shorter = 0
        for term in some_terms(119, 100):
            made = self.check(without_unused, term)
            self.assertEqual(self.check(without_unused, made), made)
            shorter += len(naive_paths(made)) < len(naive_paths(term))
        self.assertGreater(shorter, 60)

    def test_joined_names(self):
        rng = random.Random(120)
        for term in some_terms(120, 40):
            for path in naive_paths(term):
                one = naive_at(term, path)
                if one[0] != "let":
                    self.check(joined_names, term, path, ())
                    continue
                names = [name for name, _ in one[1]]
                every = [pair for pair in zip(names[::2], names[1::2])]
                tuples = [(), tuple(every), tuple(pair[::-1] for pair in every), tuple(every[:1]), tuple(every[1:])]
                tuples += [(tuple(names),), (tuple(rng.sample(names, len(names))),), (("x", "y"),), ((names[0],),), ((),)]
                tuples += [((names[0], names[0]),), (tuple(names[:2]), tuple(names[:2]))]
                for groups in tuples:
                    made = self.check(joined_names, term, path, groups)
                    if groups == ():
                        self.assertEqual(made, term)
        self.check_many(done=150, InvalidOperation=500)

    def test_joined_names_make_blocks_smaller(self):
        rng = random.Random(121)
        smaller = 0
        for term in [read(text) for text in TEXTS + MORE]:
            made = doubled(rng, term)
            for path in naive_paths(made)[::-1]:
                if naive_at(made, path)[0] == "let":
                    names = [name for name, _ in naive_at(made, path)[1]]
                    again = self.check(joined_names, made, path, tuple(zip(names[::2], names[1::2])))
                    smaller += again is not None and len(naive_at(again, path)[1]) < len(names)
        self.assertGreater(smaller, 25)

    def test_many_changes_one_after_another(self):
        """[0.20]: replacing uses by definitions, and the like, keeps the unfolding; no other term can come out."""
        rng = random.Random(122)
        done = 0
        for term in some_terms(122, 10):
            made = term
            for _ in range(12):
                path = rng.choice(naive_paths(made))
                kind = rng.choice(("unfolded", "folded", "renamed_at", "moved_out", "moved_in", "without_unused"))
                args = {"folded": (path, rng.choice("abgx")), "renamed_at": (path, rng.choice("abgx"), rng.choice("abgx")),
                        "moved_in": (path, rng.randrange(3)), "without_unused": ()}.get(kind, (path,))
                again = self.check(getattr(steps, kind), made, *args)
                if again is not None and len(naive_paths(again)) < 100:
                    self.check_alike(term, again)
                    made = again
                    done += 1
        self.assertGreater(done, 200)


class ByHand(Case):

    def check_all(self, call, rows):
        for text, *args, wanted in rows:
            term = read(text)
            if isinstance(wanted, str):
                self.assertEqual(write(call(term, *args)), wanted, (text, args))
            else:
                self.fails(wanted, call, term, *args)

    def test_unfolded(self):
        self.check_all(unfolded, (
            ("let x = f(g(x)) in x", (1,), "let x = f(g(x)) in f(g(x))"),
            ("let x = y; y = k() in x", (0,), "let x = k(); y = k() in x"),
            ("let x = f(let y = g(x) in y) in x", (0, 0, 1), "let x = f(let y = g(x) in g(x)) in x"),
            ("fun a. let x = f(a) in fun b. g(x, b)", (0, 1, 0, 0), "fun a. let x = f(a) in fun b. g(f(a), b)"),
            ("fun a. let x = f(a) in fun a. g(x, a)", (0, 1, 0, 0), InvalidOperation),
            ("fun a. let x = f(a) in fun a. g(x, a)", (0, 1, 0, 1), InvalidOperation),
            ("let x = fun a. f(a) in fun a. g(x, a)", (1, 0, 0), "let x = fun a. f(a) in fun a. g(fun a. f(a), a)"),
            ("let x = f(x) in x", (0,), InvalidOperation),
            ("let x = f(x) in x", (), InvalidOperation),
        ))

    def test_folded(self):
        self.check_all(folded, (
            ("let x = f(g(x)) in f(g(x))", (1,), "x", "let x = f(g(x)) in x"),
            ("let x = f(g(x)) in f(g(f(g(x))))", (1, 0, 0), "x", "let x = f(g(x)) in f(g(x))"),
            ("let x = f(g(x)) in x", (0,), "x", InvalidTerm),
            ("let x = y; y = k() in x", (1,), "x", InvalidOperation),
            ("let x = k(); y = k() in x", (1,), "x", "let x = k(); y = x in x"),
            ("let x = y; y = k() in y", (2,), "x", "let x = y; y = k() in x"),
            ("let x = y; y = k() in y", (0,), "x", InvalidTerm),
            ("let x = k() in fun x. k()", (1, 0), "x", InvalidOperation),
            ("let x = k() in let x = m() in k()", (1, 1), "x", InvalidOperation),
            ("let x = k() in let x = m() in k()", (1, 0), "x", InvalidTerm),
            ("let x = k() in let x = m() in m()", (1, 1), "x", "let x = k() in let x = m() in x"),
            ("fun a. let x = f(a) in fun a. f(a)", (0, 1, 0), "x", InvalidOperation),
            ("fun a. let x = f(a) in fun b. f(a)", (0, 1, 0), "x", "fun a. let x = f(a) in fun b. x"),
            ("let x = fun a. a in g(fun a. a)", (1, 0), "x", "let x = fun a. a in g(x)"),
            ("let x = fun a. a in g(fun b. b)", (1, 0), "x", InvalidOperation),
            ("let x = let y = k() in f(y) in g(let y = k() in f(y))", (1, 0), "x", "let x = let y = k() in f(y) in g(x)"),
            ("let x = let y = k() in f(y) in g(let y = k() in f(y))", (1, 0, 1), "x", InvalidOperation),
            ("let x = k() in x", (), "x", InvalidOperation),
            ("let x = let x = k() in x in x", (0,), "x", InvalidTerm),
        ))

    def test_renamed_at(self):
        self.check_all(renamed_at, (
            ("fun a. f(a)", (), "a", "b", "fun b. f(b)"),
            ("fun a. f(a)", (), "a", "a", "fun a. f(a)"),
            ("fun a. fun b. f(a)", (), "a", "b", InvalidOperation),
            ("fun a. fun b. f(b)", (), "a", "b", "fun b. fun b. f(b)"),
            ("fun a. fun b. f(a)", (0,), "b", "a", InvalidOperation),
            ("fun a. f(a)", (), "b", "c", (UnknownName, ("name", "b"))),
            ("fun a. f(a)", (), "b", "fun", (UnknownName, ("name", "b"))),
            ("fun a. f(a)", (), "a", "fun", InvalidName),
            ("fun a. f(a)", (0,), "f", "g", InvalidOperation),
            ("fun a. f(a)", (0, 0), "a", "b", InvalidOperation),
            ("let x = f(y); y = g(x) in x", (), "x", "y", InvalidOperation),
            ("let x = f(y); y = g(x) in x", (), "x", "z", "let z = f(y); y = g(z) in z"),
            ("let x = k(); y = m() in x", (), "y", "x", InvalidOperation),
            ("let x = k() in x(x)", (), "x", "y", "let y = k() in x(y)"),
        ))

    def test_moved_out(self):
        self.check_all(moved_out, (
            ("f(k(), let x = g(x) in h(x))", (1,), "let x = g(x) in f(k(), h(x))"),
            ("fun a. let k = f() in at(a, k)", (0,), "let k = f() in fun a. at(a, k)"),
            ("fun a. let k = f(a) in at(a, k)", (0,), InvalidOperation),
            ("fun k. let k = f() in k", (0,), InvalidOperation),
            ("fun x. f(x, let x = k() in x)", (0, 1), InvalidOperation),
            ("let a = k(); x = let u = m(); v = n() in pair(u, v); b = k() in x", (1,),
             "let a = k(); u = m(); v = n(); x = pair(u, v); b = k() in x"),
            ("let a = k(); b = m() in let u = a; v = u in pair(u, v)", (2,), "let a = k(); b = m(); u = a; v = u in pair(u, v)"),
            ("let a = k() in let a = m() in a", (1,), InvalidOperation),
            ("let a = let a = m() in a in a", (0,), InvalidOperation),
            ("let a = k(); b = let c = a; a = n() in c in b", (1,), InvalidOperation),
            ("fun c. let b = let c = m() in c in f(b, c)", (0, 0), InvalidOperation),
            ("let x = k() in x", (), InvalidOperation),
            ("fun a. f(a)", (0,), InvalidOperation),
            ("let x = f(let y = x in y) in x", (0, 0), "let x = let y = x in f(y) in x"),
        ))

    def test_moved_in(self):
        self.check_all(moved_in, (
            ("let k = f() in at(h(), k)", (), 1, "at(h(), let k = f() in k)"),
            ("let k = f() in at(h(), k)", (), 0, InvalidOperation),
            ("let k = f() in at(k, k)", (), 0, InvalidOperation),
            ("let k = f() in at(h(), m())", (), 0, "at(let k = f() in h(), m())"),
            ("let k = f() in at(h(), m())", (), 2, (InvalidNumber, ("value", 2))),
            ("let k = f() in at(h(), m())", (), -1, (InvalidNumber, ("value", -1))),
            ("let k = f() in at(h(), m())", (), True, (InvalidNumber, ("value", True))),
            ("let k = f() in k()", (), 0, (InvalidNumber, ("value", 0))),
            ("let k = f() in fun a. k", (), 0, "fun a. let k = f() in k"),
            ("let k = f() in fun a. k", (), 1, (InvalidNumber, ("value", 1))),
            ("fun a. let k = f(a) in fun a. k", (0,), 0, InvalidOperation),
            ("let k = f() in fun k. k", (), 0, InvalidOperation),
            ("let k = f() in k", (), 0, InvalidOperation),
            ("let k = f() in let u = k in f(u)", (), 0, InvalidOperation),
            ("let k = f() in let u = k in f(u)", (1,), 0, "let k = f() in f(let u = k in u)"),
            ("f(k())", (), 0, InvalidOperation),
        ))

    def test_with_definition(self):
        self.check_all(with_definition, (
            ("let x = k() in x", (), "y", read_open("f(x, y)"), "let x = k(); y = f(x, y) in x"),
            ("let x = k() in x", (), "x", read_open("m()"), InvalidOperation),
            ("let x = k() in x", (), "y", read_open("y"), InvalidTerm),
            ("let x = k() in x", (), "y", read_open("f(z)"), InvalidTerm),
            ("fun z. let x = k() in x", (0,), "y", read_open("f(z)"), "fun z. let x = k(); y = f(z) in x"),
            ("fun z. let x = k() in f(z)", (0,), "z", read_open("m()"), InvalidOperation),
            ("fun z. let x = k() in f(x)", (0,), "z", read_open("f(z)"), "fun z. let x = k(); z = f(z) in f(x)"),
            ("let x = k() in x", (0,), "y", K, InvalidOperation),
            ("let x = k() in x", (), "Y", None, InvalidName),
            ("let x = k() in x", (), "x", None, InvalidTerm),
            ("let y = k() in let x = m() in y", (1,), "y", read_open("f(y)"), InvalidOperation),
        ))

    def test_without_unused(self):
        self.check_all(without_unused, (
            ("let x = f(y); y = g(x); u = g(v); v = f(u); w = k() in pair(x, w)", "let x = f(y); y = g(x); w = k() in pair(x, w)"),
            ("let u = f(v); v = f(u) in k()", "k()"),
            ("let x = let u = k() in m() in let y = x in x", "let x = m() in x"),
            ("let x = let x = k() in x; y = x in fun y. y", "fun y. y"),
            ("let x = k() in x", "let x = k() in x"),
            ("fun a. let u = a in let v = u in let w = v in a", "fun a. a"),
            ("let x = let y = k() in f(); z = g(x) in z", "let x = f(); z = g(x) in z"),
        ))

    def test_joined_names(self):
        self.check_all(joined_names, (
            ("let x = f(y); y = f(x) in x", (), (("x", "y"),), "let x = f(x) in x"),
            ("let x = f(y); y = f(x) in x", (), (("y", "x"),), "let y = f(y) in y"),
            ("let x = f(y); y = f(x) in x", (), (), "let x = f(y); y = f(x) in x"),
            ("let x = f(y); y = g(x) in x", (), (("x", "y"),), InvalidOperation),
            ("let x = f(u); y = f(v); u = g(x); v = g(y) in x", (), (("x", "y"),), InvalidOperation),
            ("let x = f(u); y = f(v); u = g(x); v = g(y) in x", (), (("u", "v"),), InvalidOperation),
            ("let x = f(u); y = f(v); u = g(x); v = g(y) in x", (), (("x", "y"), ("u", "v")), "let x = f(u); u = g(x) in x"),
            ("let x = f(u); y = f(v); u = g(x); v = g(y) in x", (), (("v", "u"), ("x", "y")), "let x = f(v); v = g(x) in x"),
            ("let x = f(z); y = f(x); z = f(y) in z", (), (("x", "y", "z"),), "let x = f(x) in x"),
            ("let x = k(); y = k() in fun x. y", (), (("x", "y"),), InvalidOperation),
            ("let x = k(); y = k() in fun x. y", (), (("y", "x"),), "let y = k() in fun x. y"),
            ("let x = fun a. a; y = fun b. b in pair(x, y)", (), (("x", "y"),), InvalidOperation),
            ("let x = fun x. f(x); y = fun x. f(y) in pair(x, y)", (), (("x", "y"),), InvalidOperation),
            ("let x = let x = k() in f(x); y = let x = k() in f(y) in y", (), (("x", "y"),), InvalidOperation),
            ("let x = k(); y = k() in x", (), (("x",),), InvalidOperation),
            ("let x = k(); y = k() in x", (), (("x", "x"),), InvalidOperation),
            ("let x = k(); y = k() in x", (), (("x", "y"), ("y", "x")), InvalidOperation),
            ("let x = k(); y = k() in x", (), (("x", "z"),), InvalidOperation),
            ("let x = k(); y = k() in x", (), (["x", "y"],), InvalidOperation),
            ("let x = k(); y = k() in x", (), [("x", "y")], InvalidOperation),
            ("let x = k(); y = k() in x", (), (("x", "y"), ()), InvalidOperation),
            ("let x = k(); y = k() in x", (0,), (), InvalidOperation),
        ))


class Limits(Case):

    def test_too_many_parts(self):
        rows = tuple((letters("q", at), ("word", "f", (("name", "qa"), ("name", "qb"), K))) for at in range(98))
        term = ("let", rows, ("word", "g", (("name", "qa"), ("name", "qb"), ("word", "h", (("name", "qc"),)))))
        self.assertEqual(len(naive_paths(term)), 398)
        made = term
        for number in range(1, 35):
            made = unfolded(made, (number, 0))
        self.assertEqual(len(naive_paths(made)), 500)
        self.fails(InvalidTerm, unfolded, made, (35, 0))
        self.fails(InvalidTerm, with_definition, made, (), "other", K)
        self.assertEqual(len(naive_paths(folded(made, (1, 0), "qa"))), 497)

    def test_too_many_definitions(self):
        rows = tuple((letters("q", at), K) for at in range(99))
        term = ("let", rows, ("let", (("x", K), ("y", K)), ("name", "qa")))
        self.fails(InvalidTerm, moved_out, term, (99,))
        full = with_definition(term, (), "other", K)
        self.assertEqual(len(full[1]), 100)
        self.fails(InvalidTerm, with_definition, full, (), "more", K)
        self.fails(InvalidOperation, with_definition, full, (), "other", K)

    def test_too_many_levels(self):
        term = ("let", (("x", chain(100)),), ("word", "f", (X,)))
        deeper = unfolded(term, (1, 0))
        self.assertEqual(deeper[2], ("word", "f", (chain(100),)))
        term = ("let", (("x", chain(60)), ("y", ("fun", "a", chain(60)))), X)
        self.assertEqual(unfolded(term, (2,))[2], chain(60))
        deep = X
        for _ in range(70):
            deep = ("word", "g", (deep,))
        term = ("let", (("x", chain(60)),), deep)
        self.fails(InvalidTerm, unfolded, term, (1,) + (0,) * 70)
        self.assertEqual(renamed_at(term, (), "x", "y")[1][0][0], "y")
        inner = ("word", "f", (("let", (("x", chain(118)),), X),))
        self.assertEqual(moved_out(inner, (0,))[0], "let")
        outer = ("let", (("x", chain(119)),), ("word", "f", (X,)))
        self.fails(InvalidTerm, moved_in, outer, (), 0)

    def test_definitions_without_a_head(self):
        self.fails(InvalidTerm, folded, ROLL, (0,), "x")
        self.fails(InvalidTerm, folded, read("let x = f(y); y = f(y) in let z = f(y) in z"), (1,), "y")
        self.fails(InvalidTerm, with_definition, ROLL, (), "y", ("let", (("z", ("name", "y")),), ("name", "z")))


def wrong_terms():
    values = odd_values() + [("name", "a"), ("let", (("x", X),), X), ("word", "f", (X,)), list(ROLL), "x", graph_of(ROLL)]
    return [(value, InvalidTerm) for value in values if not naive_is_term(value)]


def wrong_paths(term, kinds):
    """What is no path of the term, or not of such a part."""
    paths = [path for path in naive_paths(term) if naive_at(term, path)[0] not in kinds]
    paths += [value for value in odd_values() if not isinstance(value, tuple) or not value or type(value[0]) is not int]
    return [(value, InvalidOperation) for value in paths + [(9,), (-1,), (0, 0, 0, 0, 0), (True,), (0, False), [0], [], ((),)]
            if value != ()]


class Errors(Case):

    def test_errors(self):
        terms = ([ROLL], wrong_terms())
        names = [(value, InvalidName) for value in odd_values() if not naive_is_name(value)]
        parts = [(value, InvalidTerm) for value in odd_values() if not naive_is_open(value)]
        block = ([()], [one for one in wrong_paths(ROLL, ("let",)) if one[0] != ()])
        check_errors(self, unfolded, terms, ([(1,)], [((), InvalidOperation)] + wrong_paths(ROLL, ("name",))))
        olds = [(value, (UnknownName, ("name", value))) for value in odd_values() if value != "x"]
        check_errors(self, renamed_at, terms, block, (["x"], olds), (["y"], names))
        check_errors(self, moved_out, terms, ([()], block[1]))
        word_in = read("let x = f(g(x)) in h(x)")
        numbers = [(value, (InvalidNumber, ("value", value))) for value in odd_values() if value != 0 or value is False]
        check_errors(self, moved_in, ([word_in], wrong_terms()), block, ([0], numbers))
        check_errors(self, with_definition, terms, block, (["y"], names), ([K], parts))
        check_errors(self, without_unused, terms)
        groups = [(value, InvalidOperation) for value in odd_values() if value != ()]
        check_errors(self, joined_names, terms, block, ([()], groups))
        folds = read("let x = f() in g(f())")
        others = [(value, InvalidOperation) for value in odd_values() if value != "x"]
        check_errors(self, folded, ([folds], wrong_terms()), (
            [(1, 0)], [(value, InvalidOperation) for value in odd_values() if value not in ((0,), (1, 0), (1,))]), (["x"], others))

    def test_nothing_is_changed(self):
        groups = [("x", "y")]
        self.fails(InvalidOperation, joined_names, read(MORE[1]), (), groups)
        self.assertEqual(groups, [("x", "y")])
        self.assertEqual([graph_of(LONG), graph_of(ROLL)], [Graph.of(graph_of(LONG).nodes), Graph.of(graph_of(ROLL).nodes)])

    def test_everything_stands_in_its_module(self):
        names = "unfolded folded renamed_at moved_out moved_in with_definition without_unused joined_names"
        for name in names.split():
            self.assertEqual(getattr(steps, name).__module__, "sharedlets.change.steps")


class Examples(Case):

    def test_examples_of_the_document(self):
        self.assertEqual(
            [unfolded(ROLL, (0, 0, 0)) == LONG, write(folded(read("let x = f(y); y = g(x) in f(y)"), (2,), "x"))],
            [True, 'let x = f(y); y = g(x) in x'])
        self.assertEqual(
            [write(moved_out(read("fun a. let k = f() in at(a, k)"), (0,))), write(moved_in(read("let k = f() in at(h(), k)"), (), 1))],
            ['let k = f() in fun a. at(a, k)', 'at(h(), let k = f() in k)'])
        self.assertEqual(
            [write(joined_names(read("let x = f(y); y = f(x) in x"), (), (("x", "y"),))), write(renamed_at(APART, (0,), "g", "h"))],
            ['let x = f(x) in x', 'fun a. let h = fun b. at(a, h) in h'])

    def test_built_terms(self):
        term = let(word("f", use("x")), x=word("k"))
        self.assertEqual(unfolded(term, (1, 0)), let(word("f", word("k")), x=word("k")))


if __name__ == "__main__":
    unittest.main()
