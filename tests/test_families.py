"""Tests of bodies and families: [0.17], [13.1], [13.2]."""

import itertools
import random
import unittest

from sharedlets.errors import InvalidFamily, InvalidOperation, TooMany, UnknownName
from sharedlets.families import families
from sharedlets.families.families import Family, is_body
from sharedlets.graphs.graphs import Graph
from tests.helper import (
    ROLL, Case, body_at, body_inner, body_paths, chain, exchanged, letters, naive_body_size, naive_end, naive_is_body,
    naive_is_family, naive_is_name, naive_lead, naive_needs_of, odd_bodies, odd_values, random_body, random_definitions, shared_tree,
    shown, small_values, wide,
)

K = ("word", "k", ())
X = ("name", "x")
KEPT = Family(("fun", "a", ("call", "g", ("a",))), g=(("x",), ("fun", "y", ("word", "at", (X, ("call", "g", ("x",)))))))
PASSED = Family(("fun", "a", ("call", "g", ("a",))), g=(("x",), ("fun", "y", ("word", "at", (X, ("call", "g", ("y",)))))))


def call(name, *variables):
    return ("call", name, variables)


def word(name, *bodies):
    return ("word", name, bodies)


def fun(variable, body):
    return ("fun", variable, body)


def name_of(variable):
    return ("name", variable)


def some_definitions(seed, many=150):
    rng = random.Random(seed)
    return random_definitions(rng, many) + BY_HAND


BY_HAND = [
    {"main": ((), K)},
    {"main": ((), word("f", call("main")))},
    {"main": ((), call("g")), "g": ((), call("h")), "h": ((), fun("a", name_of("a")))},
    {"main": ((), fun("a", call("g", "a"))), "g": (("x",), X)},
    {"main": ((), fun("a", call("g", "a"))), "g": (("x",), call("h", "x")), "h": (("y",), call("p", "y")), "p": (("z",), name_of("z"))},
    {"main": ((), fun("a", fun("b", call("g", "a", "b")))), "g": (("x", "y"), word("f", call("g", "y", "x"), X))},
    {"main": ((), fun("a", fun("b", call("g", "a", "b")))), "g": (("x", "y"), word("f", call("g", "x", "y"), X))},
    {"main": ((), K), "g": (("x", "y", "z"), fun("x", call("h", "x", "y"))), "h": (("a", "b"), fun("c", call("g", "a", "c", "b")))},
    {"main": ((), K), "g": (("x", "y", "z"), fun("x", call("h", "x", "y"))), "h": (("a", "b"), fun("c", word("m", name_of("a"), call("g", "b", "a", "c"))))},
    {"main": ((), fun("x", fun("x", call("g", "x")))), "g": (("x",), fun("x", word("f", X, call("g", "x"), call("main"))))},
]


class Bodies(Case):

    def test_any_value(self):
        many = [0, 0]
        self.assertIs(is_body(shared_tree(130)), False)
        for value in small_values() + odd_bodies():
            wanted = naive_is_body(value)
            many[wanted] += 1
            self.assertIs(is_body(value), wanted, shown(value))
        self.assertGreater(min(many), 8)

    def test_bodies_with_a_part_exchanged(self):
        others = small_values()[::3] + odd_bodies()
        for body in (
            call("g", "x", "y"), fun("a", word("f", name_of("a"), call("g", "a"))), word("f", K, fun("b", call("main"))),
        ):
            for value in exchanged(body, others):
                self.assertIs(is_body(value), naive_is_body(value), shown(value))

    def test_random_bodies(self):
        rng = random.Random(131)
        for _ in range(300):
            body = random_body(rng, {"g": 2, "h": 0, "p": 1}, ("x", "y", "z"), 5)
            self.assertIs(is_body(body), naive_is_body(body))

    def test_limits(self):
        self.assertIs(is_body(call("g", *[letters("v", at) for at in range(8)])), True)
        self.assertIs(is_body(call("g", *[letters("v", at) for at in range(9)])), False)
        for many in (99, 100, 101, 130):
            self.assertIs(is_body(chain(many)), many <= 100)
            self.assertIs(is_body(wide(many)), many <= 100)
        row = call("g")
        for many in range(1, 131):
            row = fun("x", row) if many % 2 else word("f", row, name_of("y"), call("g", "z"))
            self.assertIs(is_body(row), many <= 100)
        self.assertIs(is_body(shared_tree(7)), True)
        self.assertIs(is_body(shared_tree(8)), False)


class WhatIsAFamily(Case):

    def check(self, definitions):
        """Compare whether there is such a family."""
        if not naive_is_family(definitions):
            self.fails(InvalidFamily, Family.of, definitions)
            return False
        if sum(naive_body_size(body) for _, body in definitions.values()) > 100:
            self.fails((TooMany, ("limit", 100)), Family.of, definitions)
            return False
        family = Family.of(definitions)
        self.assertEqual(family.definitions, definitions)
        return True

    def test_definitions_with_a_part_exchanged(self):
        many = [0, 0]
        others = [None, 0, "x", "main", "g", (), ("x",), ("x", "x"), ("y", "x"), X, name_of("a"), K, call("g"), call("g", "x"), call("h", "x"),
                  call("main"), fun("a", call("g", "a")), fun("x", X), word("f", X, call("g", "x")), [], {}, KEPT]
        for definitions in (
            {"main": ((), fun("a", call("g", "a"))), "g": (("x",), fun("y", word("at", X, call("g", "y"))))},
            {"main": ((), call("h")), "h": ((), fun("b", call("g", "b"))), "g": (("x",), call("p", "x")), "p": (("z",), word("f", name_of("z")))},
        ):
            for name in definitions:
                for value in exchanged(definitions[name], others):
                    many[self.check({**definitions, name: value})] += 1
        self.assertGreater(min(many), 60)

    def test_random_definitions(self):
        rng = random.Random(132)
        many = [0, 0]
        for _ in range(800):
            rows = {name: rng.choice(((), ("x",), ("x", "y"), ("x", "x"))) for name in rng.sample(["g", "h", "p"], 2)}
            rows["main"] = rng.choice(((),) * 9 + (("x",),))
            counts = {name: rng.choice((len(row), len(row), 1)) for name, row in rows.items()}
            if rng.random() < 0.1:
                counts["other"] = 0
            definitions = {name: (row, random_body(rng, counts, row + rng.choice(((), (), ("u",))), 2)) for name, row in rows.items()}
            many[self.check(definitions)] += 1
        self.assertGreater(min(many), 100)

    def test_rings_of_calls(self):
        for main, g, h, wanted in (
            (call("main"), K, K, False),
            (call("g"), call("g"), K, False),
            (call("g"), call("h"), call("g"), False),
            (call("g"), call("h"), call("main"), False),
            (call("g"), call("h"), word("f", call("main")), True),
            (K, call("h"), call("g"), False),
            (K, K, call("h"), False),
            (word("f", call("g")), call("h"), call("g"), False),
            (fun("a", call("g")), call("h"), K, True),
            (call("h"), fun("a", call("g")), call("g"), True),
            (call("g"), word("k", call("g"), call("h")), call("g"), True),
        ):
            definitions = {"main": ((), main), "g": ((), g), "h": ((), h)}
            self.assertIs(self.check(definitions), wanted)
        # With parameters, too: they are handed on for ever, and nothing stands there.
        self.assertIs(self.check({"main": ((), K), "g": (("x", "y"), call("g", "y", "x"))}), False)
        self.assertIs(self.check({"main": ((), K), "g": (("x", "y"), word("f", call("g", "y", "x")))}), True)
        self.assertIs(self.check({"main": ((), K), "g": (("x",), call("h", "x")), "h": (("x",), X)}), True)
        row = {letters("d", at): ((), call(letters("d", at + 1))) for at in range(98)}
        self.assertIs(self.check({**row, "main": ((), call("da")), letters("d", 98): ((), K)}), True)
        self.assertIs(self.check({**row, "main": ((), call("da")), letters("d", 98): ((), call("da"))}), False)

    def test_calls(self):
        for body, wanted in (
            (call("g", "x", "y"), True), (call("g", "y", "x"), True), (call("g", "x", "x"), False), (call("g", "x"), False),
            (call("g", "x", "y", "z"), False), (call("h", "x", "y"), False), (call("g"), False), (call("main"), True), (call("main", "x"), False),
            (call("g", "a", "x"), False), (fun("a", call("g", "a", "x")), True), (fun("x", call("g", "x", "y")), True),
            (word("f", fun("a", call("g", "a", "x")), name_of("a")), False), (name_of("x"), True), (name_of("z"), False),
        ):
            self.assertIs(self.check({"main": ((), K), "g": (("x", "y"), word("m", body, X))}), wanted)
            self.assertIs(self.check({"main": ((), body), "g": (("x", "y"), X)}), wanted and body == call("main", "x"))
        self.assertIs(self.check({"main": ((), fun("x", fun("y", call("g", "y", "x")))), "g": (("x", "y"), X)}), True)

    def test_parameters(self):
        names = tuple(letters("v", at) for at in range(9))
        for row, wanted in (
            (names[:8], True), (names, False), (("x", "x"), False), (["x"], False), ("x", False), (("x", "fun"), False), (("x", 1), False),
            ((), True), (None, False), ((("name", "x"),), False), (("in",), False), (("main",), True), (("g",), True),
        ):
            self.assertIs(self.check({"main": ((), K), "g": (row, K)}), wanted)
            self.assertIs(self.check({"main": (row, K)}), row == ())

    def test_how_many(self):
        row = {letters("d", at): ((), K if at < 99 else call("da")) for at in range(101)}
        for many, wanted in ((1, True), (98, True), (99, True), (100, False)):
            definitions = dict(itertools.islice(row.items(), many))
            self.assertIs(self.check({**definitions, "main": ((), K)}), wanted)
        self.assertIs(self.check({"main": ((), chain(60)), "g": ((), chain(40))}), True)
        self.assertIs(self.check({"main": ((), chain(60)), "g": ((), chain(41))}), False)
        self.assertIs(self.check({"main": ((), chain(101))}), False)
        # The form comes first, whatever the size is.
        self.fails(InvalidFamily, Family.of, {"main": ((), chain(101)), "g": ((), name_of("x"))})
        self.fails(InvalidFamily, Family.of, {"main": ((), word("f", chain(60), chain(60), name_of("x")))})
        self.fails((TooMany, ("limit", 100)), Family.of, {"main": ((), word("f", chain(60), chain(60), call("main")))})
        self.fails(InvalidFamily, Family.of, {"main": ((), shared_tree(130))})
        self.fails((TooMany, ("limit", 100)), Family.of, {"main": ((), chain(130))})

    def test_any_value(self):
        for value in small_values() + odd_bodies():
            self.check(value)
            self.check({"main": value})
            self.check({"main": ((), value)})
            self.check({"main": ((), K), "g": (value, K)})
            self.check({"main": ((), K), "g": (("x", "y"), value)})
        for key in [None, 0, True, (), ("g",), "", "G", "let", "abcdefghi", "g g", "self"]:
            self.check({"main": ((), K), key: ((), K)})
        self.check({})
        self.check({"g": ((), K)})

    def test_keywords(self):
        self.assertEqual(Family(K), Family.of({"main": ((), K)}))
        self.assertEqual(KEPT.definitions["main"], ((), fun("a", call("g", "a"))))
        self.assertEqual(Family(K, g=((), K), h=(("x",), X)), Family.of({"h": (("x",), X), "g": ((), K), "main": ((), K)}))
        for main, more in ((name_of("x"), {}), (((), K), {}), (None, {}), (K, {"g": K}), (K, {"g": None}), (K, {"Big": ((), K)}), (K, {"fun": ((), K)})):
            self.fails(InvalidFamily, Family, main, **more)
        self.fails((TooMany, ("limit", 100)), Family, chain(99), g=((), chain(2)))
        own = Family.of({"main": ((), call("self")), "self": ((), K)})
        self.assertEqual(own.names, ("main", "self"))


class Properties(Case):

    def test_against_slow_ways(self):
        unneeded = 0
        for definitions in some_definitions(133):
            family = Family.of(definitions)
            self.assertEqual(family.names, tuple(sorted(definitions)))
            self.assertEqual(family.definitions, definitions)
            self.assertEqual(list(family.definitions), sorted(definitions))
            self.assertEqual(family.size, sum(naive_body_size(body) for _, body in definitions.values()))
            self.assertEqual(family.start, (naive_end(definitions, "main"), ()))
            self.assertEqual([len(family), str(family)], [len(definitions), f"family of {len(definitions)} definitions, {family.size} nodes"])
            for name, (parameters, body) in definitions.items():
                self.assertEqual(family[name], (parameters, body))
                needed = naive_needs_of(definitions, name, ())
                self.assertEqual(family.needs(name), tuple(one for one in parameters if one in needed))
                unneeded += len(needed) < len(parameters)
                self.assertEqual(family.called(name), tuple(sorted(self.calls_in(body))))
            self.assertEqual(family.reached(), self.naive_reached(definitions))
        self.assertGreater(unneeded, 60)

    def calls_in(self, body):
        return {body[1]} if body[0] == "call" else set().union(*[self.calls_in(inner) for inner in body_inner(body)])

    def naive_reached(self, definitions):
        found = {"main"}
        while True:
            more = found.union(*[self.calls_in(definitions[name][1]) for name in found])
            if more == found:
                return tuple(sorted(found))
            found = more

    def test_needs_of_places(self):
        sizes = []
        for definitions in some_definitions(134, 400):
            family = Family.of(definitions)
            for name, (parameters, body) in definitions.items():
                paths = body_paths(body)
                for path in paths:
                    wanted = naive_needs_of(definitions, name, path)
                    self.assertEqual(family.needs_of((name, path)), wanted)
                    sizes.append(len(wanted))
                for path in [(0,), (1,), (2,), (3,), (0, 0), (0, 0, 0), (1, 0), (0, 1), (-1,), (0, 0, 0, 0, 0, 0, 0, 0)]:
                    if path not in paths:
                        self.fails(InvalidOperation, family.needs_of, (name, path))
                if body[0] == "call":
                    self.fails(InvalidOperation, family.needs_of, (name, ()))
        self.assertGreater(sum(size > 1 for size in sizes), 100)

    def test_what_is_no_place(self):
        self.assertEqual(KEPT.needs_of(("g", (0, 0))), ("x",))
        for value in odd_values() + [
            ("g",), ("g", (), ()), ["g", ()], ("g", []), ("h", ()), ("main", (0,)), ("g", (0, 1)), ("g", (0, 2)), ("g", (0, 0, 0)), ("g", (False,)),
            ("g", (0, True)), (("g",), ()), ({}, ()), (None, ()), ("g", None), ("g", "0"), ("g", (0.0,)), ("g", (None,)), ("g", ((0,),)), "g", ("G", ()),
        ]:
            self.fails(InvalidOperation, KEPT.needs_of, value)

    def test_leads(self):
        far = 0
        for definitions in some_definitions(135, 400):
            family = Family.of(definitions)
            for name, (parameters, body) in definitions.items():
                variables = tuple(letters("u", at) for at in range(len(parameters)))
                for told in (variables, variables[::-1], parameters[::-1]):
                    end, path, names = naive_lead(definitions, name, (), dict(zip(parameters, told)))
                    self.assertEqual(path, ())
                    needed = naive_needs_of(definitions, end, ())
                    place, handed = family.leads(name, *told)
                    self.assertEqual([place, handed], [(end, ()), {one: names[one] for one in needed}])
                    self.assertEqual(list(handed), sorted(handed))
                    far += end != name and len(needed) > 0
        self.assertGreater(far, 20)

    def test_leads_through_calls(self):
        family = Family(K, g=(("x", "y", "z"), call("h", "z", "x")), h=(("y", "x"), call("p", "x", "y")), p=(("b", "a"), word("f", name_of("a"))))
        self.assertEqual(family.leads("g", "one", "two", "tri"), (("p", ()), {"a": "tri"}))
        self.assertEqual(family.leads("h", "one", "two"), (("p", ()), {"a": "one"}))
        self.assertEqual([family.needs(name) for name in family.names], [("z",), ("y",), (), ("a",)])
        for args in ((), ("u",), ("u", "v"), ("u", "v", "w", "x"), ("u", "v", "u"), ("u", "v", "fun"), ("u", "v", 3), ("u", "v", None), ("u", ("v",), "w"), ("u", [], {})):
            self.fails(InvalidOperation, family.leads, "g", *args)
        self.fails((UnknownName, ("name", "u")), family.leads, "u", "u", "u")

    def test_needs_in_the_order_of_the_parameters(self):
        family = Family(K, g=(("z", "b", "x", "a"), word("f", name_of("x"), name_of("z"), name_of("a"))))
        self.assertEqual(family.needs("g"), ("z", "x", "a"))
        self.assertEqual(family.needs_of(("g", ())), ("a", "x", "z"))
        self.assertEqual(family.leads("g", "l", "m", "n", "o"), (("g", ()), {"a": "o", "x": "n", "z": "l"}))
        turned = Family(K, g=(("x", "y", "z"), word("f", call("g", "z", "x", "y"), X)), h=(("x", "y"), word("f", call("h", "x", "y"), name_of("x"))))
        self.assertEqual([turned.needs("g"), turned.needs("h")], [("x", "y", "z"), ("x",)])

    def test_nearest_variables(self):
        family = Family(K, g=(("x",), fun("x", word("f", X, call("h", "x")))), h=(("y",), fun("y", fun("x", name_of("y")))))
        self.assertEqual([family.needs("g"), family.needs("h")], [(), ()])
        self.assertEqual([family.needs_of(("g", (0,))), family.needs_of(("h", (0, 0))), family.needs_of(("h", (0,)))], [("x",), ("y",), ("y",)])


class Changed(Case):

    def test_with_definition(self):
        for definitions in some_definitions(136, 40):
            family = Family.of(definitions)
            for name, pair in (("g", ((), K)), ("new", (("x", "y"), word("f", X, call("main")))), ("h", (("x",), call("g", "x"))), ("main", ((), call("g"))),
                               ("main", (("x",), K)), ("p", ((), call("p"))), ("new", (("x", "x"), K)), ("new", (("x",), name_of("y"))), ("new", ((), chain(60)))):
                made = {**definitions, name: pair}
                if not naive_is_family(made):
                    self.fails(InvalidFamily, family.with_definition, name, *pair)
                elif sum(naive_body_size(body) for _, body in made.values()) > 100:
                    self.fails((TooMany, ("limit", 100)), family.with_definition, name, *pair)
                else:
                    self.assertEqual(family.with_definition(name, *pair), Family.of(made))
            self.assertEqual(family, Family.of(definitions))

    def test_without(self):
        done = 0
        for definitions in some_definitions(137, 60):
            family = Family.of(definitions)
            self.assertEqual(family.without(), family)
            for names in itertools.chain.from_iterable(itertools.combinations(definitions, many) for many in (1, 2, 3)):
                made = {name: pair for name, pair in definitions.items() if name not in names}
                if naive_is_family(made):
                    self.assertEqual(family.without(*names), Family.of(made))
                    self.assertEqual(family.without(*names, *names[::-1]), Family.of(made))
                    done += 1
                else:
                    self.fails(InvalidFamily, family.without, *names)
            self.fails((UnknownName, ("name", "other")), family.without, "main", "other", "none")
        self.assertGreater(done, 30)

    def naive_renamed(self, definitions, names):
        def written(part):
            if part[0] == "call":
                return ("call", names.get(part[1], part[1]), part[2])
            if part[0] == "word":
                return ("word", part[1], tuple(map(written, part[2])))
            return ("fun", part[1], written(part[2])) if part[0] == "fun" else part
        made = {}
        for name, (parameters, body) in definitions.items():
            if names.get(name, name) in made:
                return None
            made[names.get(name, name)] = (parameters, written(body))
        return made if naive_is_family(made) else None

    def test_renamed(self):
        done = [0, 0]
        for definitions in some_definitions(138, 80):
            family = Family.of(definitions)
            own = sorted(set(definitions) - {"main"})
            rows = [{}, dict(zip(own, own)), dict(zip(own, own[1:] + own[:1])), dict(zip(own, own[1:])), {name: name + "new" for name in own}]
            rows += [{name: "main"} for name in own[:1]] + [{name: "x"} for name in own[:2]] + [{name: "f"} for name in own]
            rows += [{name: "fun"} for name in own[:1]] + [{own[0]: "one", own[1]: own[0]}] if len(own) > 1 else []
            for names in rows:
                made = self.naive_renamed(definitions, names)
                done[made is not None] += 1
                if made is None:
                    self.fails(InvalidFamily, family.renamed_by, names)
                    self.fails(InvalidFamily, family.renamed, **names)
                else:
                    self.assertEqual(family.renamed_by(names), Family.of(made))
                    self.assertEqual(family.renamed(**names), Family.of(made))
        self.assertGreater(min(done), 50)

    def test_names_exchanged_all_at_once(self):
        family = Family(call("g"), g=((), word("f", call("h"), call("g"))), h=((), fun("a", call("g"))))
        made = family.renamed(g="h", h="g")
        self.assertEqual(made, Family(call("h"), h=((), word("f", call("g"), call("h"))), g=((), fun("a", call("h")))))
        self.assertEqual(made.renamed(h="g", g="h"), family)
        self.assertEqual(family.renamed_by({"h": "self"})["self"], ((), fun("a", call("g"))))

    def test_wrong_names(self):
        family = Family(call("g"), g=((), K), h=((), K))
        for names, wanted in (
            (None, InvalidOperation), ((), InvalidOperation), ([("g", "x")], InvalidOperation), ("g", InvalidOperation), (3, InvalidOperation),
            ({1: "x"}, InvalidOperation), ({None: "x", "other": "y"}, InvalidOperation), ({("g",): "x"}, InvalidOperation),
            ({"main": "x"}, InvalidOperation), ({"a": "b", "main": "main"}, InvalidOperation), ({"main": 3, "g": []}, InvalidOperation),
            ({"other": "x"}, (UnknownName, ("name", "other"))), ({"z": "x", "b": [], "c": None}, (UnknownName, ("name", "b"))),
            ({"g": [], "k": "x", "i": "x"}, (UnknownName, ("name", "i"))), ({"": "x", "g": "y"}, (UnknownName, ("name", ""))),
            ({"G": "x", "g": "y"}, (UnknownName, ("name", "G"))),
            ({"g": []}, InvalidFamily), ({"g": None}, InvalidFamily), ({"g": "G"}, InvalidFamily), ({"g": "h"}, InvalidFamily), ({"g": "main"}, InvalidFamily),
            ({"g": ("h",)}, InvalidFamily), ({"g": "x", "h": "x"}, InvalidFamily), ({"g": {}}, InvalidFamily), ({"h": 3}, InvalidFamily),
        ):
            self.fails(wanted, family.renamed_by, names)
        self.fails(InvalidOperation, family.renamed, main="g")
        self.fails((UnknownName, ("name", "other")), family.renamed, other="g", g=None)


class Objects(Case):

    def test_equal(self):
        rows = some_definitions(139, 40)
        for one, two in itertools.product(rows[::2], rows[:30]):
            self.assertIs(Family.of(one) == Family.of(two), one == two)
            self.assertIs(Family.of(one) != Family.of(two), one != two)
        for value in odd_values() + odd_bodies():
            self.assertIs(KEPT == value, False)
            self.assertIs(KEPT != value, True)
        self.assertIs(KEPT == PASSED, False)
        self.assertIs(Family(fun("a", name_of("a"))) == Family(fun("b", name_of("b"))), False)

    def test_contains(self):
        for value in odd_values() + ["main", "g", "h", KEPT, Graph(K)]:
            wanted = isinstance(value, str) and value in ("main", "g")
            self.assertIs(value in KEPT, wanted)
        self.assertEqual(len(KEPT), 2)

    def test_unknown_names(self):
        for value in [value for value in odd_values() if value not in ("main", "g")] + ["h", "self"]:
            wanted = (UnknownName, ("name", value))
            for action in (KEPT.__getitem__, KEPT.needs, KEPT.called, KEPT.leads, KEPT.without):
                self.fails(wanted, action, value)
            self.fails(wanted, KEPT.leads, value, value)
            self.fails(wanted, KEPT.without, "g", value, "other")

    def test_not_iterable(self):
        for action in (iter, list, tuple, sorted):
            with self.assertRaises(TypeError):
                action(KEPT)

    def test_state_is_not_given_away(self):
        definitions = {"main": ((), fun("a", call("g", "a"))), "g": (("x",), X)}
        family = Family.of(definitions)
        definitions["h"] = ((), K)
        del definitions["g"]
        for found in (family.definitions, family.leads("g", "u")[1]):
            found.clear()
            found["main"] = None
        self.assertEqual(family, Family(fun("a", call("g", "a")), g=(("x",), X)))
        self.assertEqual(family.leads("g", "u"), (("g", ()), {"x": "u"}))
        names = {"g": "h"}
        self.assertEqual(family.renamed_by(names).names, ("h", "main"))
        self.assertEqual([names, family.names], [{"g": "h"}, ("g", "main")])

    def test_wrong_definitions(self):
        for name in [value for value in odd_values() if not naive_is_name(value)]:
            self.fails(InvalidFamily, KEPT.with_definition, name, (), K)
            self.fails(InvalidFamily, KEPT.with_definition, name, None, None)
        self.fails(InvalidFamily, KEPT.with_definition, "h", shared_tree(130), K)
        self.fails(InvalidFamily, KEPT.with_definition, "h", (), shared_tree(130))
        for value in small_values():
            if not naive_is_family({**KEPT.definitions, "h": (value, K)}):
                self.fails(InvalidFamily, KEPT.with_definition, "h", value, K)
            if not naive_is_family({**KEPT.definitions, "h": (("x",), value)}):
                self.fails(InvalidFamily, KEPT.with_definition, "h", ("x",), value)
        self.fails(InvalidFamily, KEPT.with_definition, "g", (), K)
        self.fails(InvalidFamily, KEPT.without, "g")
        self.fails(InvalidFamily, KEPT.without, "main", "g")

    def test_a_family_at_the_limits(self):
        rows = {letters("d", at): ((), word("f", call(letters("d", at + 1)))) for at in range(98)}
        family = Family.of({**rows, letters("d", 98): ((), call("main")), "main": ((), fun("a", call("da")))})
        self.assertEqual([len(family), family.size, len(family.reached())], [100, 99, 100])
        self.assertEqual(family.leads(letters("d", 98)), (("main", ()), {}))
        self.fails(InvalidFamily, family.with_definition, "other", (), K)
        names = tuple(letters("v", at) for at in range(8))
        inner = call("g", *names[1:], names[0])
        for variable in names[::-1]:
            inner = fun(variable, inner)
        turned = Family(inner, g=(names, word("at", name_of(names[3]), call("g", *names[1:], names[0]))))
        self.assertEqual(turned.needs("g"), names)

    def test_everything_stands_in_its_module(self):
        self.assertEqual([is_body.__module__, Family.__module__, families.__name__], ["sharedlets.families.families"] * 3)
        for name in ("of", "names", "definitions", "size", "start", "needs", "called", "reached", "needs_of", "leads", "with_definition", "without",
                     "renamed", "renamed_by", "__getitem__", "__len__", "__contains__", "__eq__", "__str__"):
            self.assertIn(name, vars(Family))


class Examples(Case):

    def test_examples_of_the_document(self):
        self.assertEqual(
            [KEPT.names, KEPT.size, KEPT.start, KEPT.needs("g"), KEPT.called("g"), KEPT["main"], str(KEPT)],
            [('g', 'main'), 3, ('main', ()), ('x',), ('g',), ((), ('fun', 'a', ('call', 'g', ('a',)))), 'family of 2 definitions, 3 nodes'])
        self.assertEqual(
            [KEPT.needs_of(("g", (0,))), PASSED.needs_of(("g", (0,))), KEPT.leads("g", "u")],
            [('x',), ('x', 'y'), (('g', ()), {'x': 'u'})])
        self.assertEqual(
            [KEPT.with_definition("h", ("z",), ("word", "k", ())).needs("h"), KEPT.reached(), KEPT.renamed(g="go").names],
            [(), ('g', 'main'), ('go', 'main')])

    def test_terms_are_bodies_without_blocks(self):
        self.assertIs(is_body(ROLL), False)
        self.assertIs(is_body(ROLL[1][0][1]), True)
        self.assertEqual(body_at(KEPT["g"][1], (0, 0)), X)


if __name__ == "__main__":
    unittest.main()
