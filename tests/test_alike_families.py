"""Tests of families and graphs as programs: [0.10], [0.11], [0.19], [15.1], [15.2]."""

import itertools
import random
import unittest

from sharedlets.errors import InvalidAddress, InvalidFamily, InvalidNumber
from sharedlets.families.alike import (
    alike_programs, are_alike_to, is_table, look_in, needed_at, program_difference, table,
)
from sharedlets.families.families import Family
from sharedlets.families.lifted import family_of
from sharedlets.families.texts import read_family
from sharedlets.graphs.graphs import Graph
from sharedlets.graphs.made import graph_of
from sharedlets.terms.texts import read
from tests.helper import (
    APART, CROSS, FAMILY_TEXTS, LONG, NEST, ROLL, TEXTS, Case, alike_nodes, changed_family, check_errors, copied_family, exchanged,
    graph_pairs, letters, naive_family_below, naive_family_places, naive_fits_in, naive_needs, naive_needs_of, naive_program_difference,
    naive_spots, odd_values, padded_family, random_graph_nodes, ring, some_families, turned_family, wrong_numbers, wrong_programs,
)

KEPT = read_family(FAMILY_TEXTS[0])
PASSED = read_family(FAMILY_TEXTS[1])
ROWS = ((("g", ()), 1, (("x", 0),)), (("g", (0,)), 2, (("x", 0),)), (("g", (0, 0)), 3, (("x", 0),)), (("main", ()), 0, ()))
DEPTH = 7


def some_programs(seed, many):
    """Families and graphs."""
    rng = random.Random(seed)
    programs = [Family.of(made) for made in some_families(seed, many)] + [graph_of(read(text)) for text in TEXTS]
    return programs + [Graph.of(nodes) for nodes in random_graph_nodes(rng, many, 12)]


def outline_of(program):
    """A dict from all places of a program to (kind, needs, children), worked out by the words of the document.

    A child is a pair: a place, and a dict from its needs to what they stand for, None for the own variable.
    """
    found = {}
    if isinstance(program, Graph):
        needs = naive_needs(program.nodes)
        for node, (kind, *rest) in enumerate(program.nodes):
            children = {"word": rest[-1], "fun": rest, "var": ()}[kind]
            below = [(child, {one: None if one == node else one for one in needs[child]}) for child in children]
            found[node] = ((kind, rest[0], len(rest[1])) if kind == "word" else (kind,), needs[node], below)
        return found
    definitions = program.definitions
    for name, (_, body) in definitions.items():
        for path, part in walk(body, ()):
            if part[0] == "call":
                continue
            below = []
            for child, given in naive_family_below(definitions, name, path):
                own = part[1] if part[0] == "fun" else None
                wanted = naive_needs_of(definitions, *child)
                below.append((child, {one: None if given[one] == own else given[one] for one in wanted}))
            kind = {"word": ("word", part[1], len(part[2]) if part[0] == "word" else 0), "fun": ("fun",), "name": ("var",)}[part[0]]
            found[(name, path)] = (kind, set(naive_needs_of(definitions, name, path)), below)
    return found


def walk(body, path):
    """All parts of a body with their paths."""
    yield path, body
    inner = {"word": body[-1], "fun": body[2:]}.get(body[0], ())
    for at, one in enumerate(inner):
        yield from walk(one, path + (at,))


def naive_is_table(first, second, value):
    """Whether a tuple of triples with places of both programs, whatever pairs, is a table."""
    return is_table_of(first, second, outline_of(first), outline_of(second), value)


def is_table_of(first, second, one, two, value):
    """The same with what outline_of gives for both."""
    starts = [0 if isinstance(program, Graph) else program.start for program in (first, second)]
    if list(value) != sorted(set(value)) or (*starts, ()) not in value:
        return False
    for place, other, pairs in value:
        (kind, needs, below), (mark, others, beside) = one[place], two[other]
        if kind != mark or list(pairs) != sorted(set(pairs)):
            return False
        if sorted(a for a, _ in pairs) != sorted(needs) or sorted(b for _, b in pairs) != sorted(others):
            return False
        for (child, given), (partner, handed) in zip(below, beside):
            both = {(None, None), *pairs}
            passed = tuple(sorted((a, b) for a in given for b in handed if (given[a], handed[b]) in both))
            if (child, partner, passed) not in value:
                return False
    return True


class Examples(Case):

    def test_looks(self):
        apart = graph_of(APART)
        self.assertEqual(look_in(KEPT, (0, 0, 1, 0, 0)), ("var", 5))
        self.assertEqual(look_in(PASSED, (0, 0, 1, 0, 0)), ("var", 4))
        self.assertEqual(needed_at(PASSED, (0, 0, 1)), ((0,),))
        self.assertIs(alike_programs(KEPT, apart), True)
        self.assertEqual(look_in(apart, (0, 0)), ("word", "at", 2))

    def test_differences(self):
        self.assertEqual(program_difference(KEPT, PASSED), ((0, 0, 1, 0, 0), ("var", 5), ("var", 4)))
        self.assertIs(are_alike_to(KEPT, PASSED, 4), True)
        self.assertIs(are_alike_to(KEPT, PASSED, 5), False)
        self.assertIs(are_alike_to(KEPT, graph_of(APART), 10 ** 39), True)

    def test_tables(self):
        apart = graph_of(APART)
        self.assertIs(is_table(KEPT, apart, ROWS), True)
        self.assertIs(is_table(KEPT, PASSED, ROWS), False)
        self.assertIs(is_table(apart, KEPT, ROWS), False)
        self.assertIsNone(table(KEPT, PASSED))
        self.assertIs(is_table(KEPT, apart, table(KEPT, apart)), True)

    def test_graphs_whose_nodes_can_be_paired_but_for_scopes(self):
        nest, cross = graph_of(NEST), graph_of(CROSS)
        self.assertIs(alike_programs(nest, cross), False)
        self.assertEqual(program_difference(nest, cross), ((0, 1, 0, 0), ("var", 2), ("var", 4)))
        self.assertIs(alike_programs(graph_of(ROLL), graph_of(LONG)), True)


class Looks(Case):

    def test_all_places_down_to_a_depth(self):
        kinds = set()
        for program in some_programs(151, 30):
            spots = naive_spots(program, DEPTH)
            for address, (look, needed, _) in spots.items():
                kinds.add(look[0])
                self.assertEqual(look_in(program, address), look)
                self.assertEqual(needed_at(program, address), tuple(address[:length] for length in sorted(needed)))
        self.assertEqual(kinds, {"word", "fun", "var"})

    def test_addresses_that_lead_out_of_the_tree(self):
        for program in some_programs(152, 10):
            spots = naive_spots(program, 4)
            for address in itertools.chain.from_iterable(itertools.product(range(3), repeat=many) for many in range(5)):
                if address not in spots:
                    self.fails(InvalidAddress, look_in, program, address)
                    self.fails(InvalidAddress, needed_at, program, address)

    def test_far_down(self):
        self.assertEqual(look_in(PASSED, (0,) + (0, 1) * 2000 + (0, 0)), ("var", 4))
        self.assertEqual(look_in(KEPT, (0,) + (0, 1) * 2000 + (0, 0)), ("var", 4003))
        self.assertEqual(needed_at(graph_of(APART), (0,) + (0, 1) * 50), ((),))

    def test_wrong_arguments(self):
        wrong = [(value, InvalidAddress) for value in odd_values() if value != () and value != (0,)]
        wrong += [(value, InvalidAddress) for value in ((((0,), 1),), (0, ((0,), 0)), (((0, 0), 1), 0), (1,), (0, 0, 0, 0), (0, -1), [0], "0")]
        for call in (look_in, needed_at):
            check_errors(self, call, ([KEPT, graph_of(APART)], wrong_programs()), ([(), (0,)], wrong))

    def test_parts_of_addresses_exchanged(self):
        there = list(naive_spots(KEPT, 4))
        for value in exchanged((0, 0, 1), odd_values()[:60]):
            if not any(value == address and repr(value) == repr(address) for address in there):
                self.fails(InvalidAddress, look_in, KEPT, value)


class AlikePrograms(Case):

    def check(self, first, second):
        """Compare all that is told of two programs with the walk through both unfoldings; return whether they are alike."""
        alike = alike_programs(first, second)
        found = naive_program_difference(first, second, DEPTH)
        difference = program_difference(first, second)
        rows = table(first, second)
        self.assertIs(alike, difference is None)
        self.assertIs(alike, rows is not None)
        self.assertIs(alike_programs(second, first), alike)
        if found is not None or alike:
            self.assertEqual(difference, found)
        else:
            self.assertGreater(len(difference[0]), DEPTH)
            self.assertEqual(look_in(first, difference[0]), difference[1])
            self.assertEqual(look_in(second, difference[0]), difference[2])
            self.assertNotEqual(difference[1], difference[2])
        if alike:
            self.assertIs(type(rows), tuple)
            self.assertIs(naive_is_table(first, second, rows), True)
            self.assertIs(is_table(first, second, rows), True)
            self.assertIs(is_table(second, first, tuple(sorted((b, a, tuple(sorted((y, x) for x, y in pairs))) for a, b, pairs in rows))), True)
        length = 2 if alike else len(difference[0])
        for depth in (0, max(0, length - 1), length, length + 1, 10 ** 39):
            self.assertIs(are_alike_to(first, second, depth), alike or depth < length)
        return alike

    def test_alike_families(self):
        rng = random.Random(153)
        for made in some_families(154, 25):
            family = Family.of(made)
            self.assertTrue(self.check(family, family))
            for change in (copied_family, turned_family, padded_family):
                other = change(rng, made)
                if naive_fits_in(other):
                    self.assertTrue(self.check(family, Family.of(other)))

    def test_families_with_something_changed(self):
        rng = random.Random(155)
        many = [0, 0]
        for made in some_families(156, 40):
            other = turned_family(rng, copied_family(rng, changed_family(rng, made)))
            if naive_fits_in(other):
                many[self.check(Family.of(made), Family.of(other))] += 1
        self.assertGreater(min(many), 20)

    def test_graphs_and_families(self):
        rng = random.Random(157)
        many = [0, 0]
        graphs = [Graph.of(nodes) for nodes, _ in alike_nodes(rng, 60, 20)]
        graphs += [graph_of(read(text)) for text in TEXTS]
        for graph in graphs:
            family = family_of(graph)
            many[self.check(graph, family)] += 1
            other = changed_family(rng, family.definitions)
            if naive_fits_in(other):
                many[self.check(Family.of(other), graph)] += 1
        self.assertGreater(min(many), 20)

    def test_pairs_of_graphs(self):
        many = [0, 0]
        for nodes, others in graph_pairs(158, 25, 40):
            many[self.check(Graph.of(nodes), Graph.of(others))] += 1
        self.assertGreater(min(many), 10)

    def test_different_things_far_down(self):
        near, far = ring(10, (9,)), ring(10, ())
        for first, second in itertools.product((Graph.of(near), family_of(Graph.of(near))), (Graph.of(far), family_of(Graph.of(far)))):
            self.assertEqual(program_difference(first, second), ((0,) * 9, ("word", "g", 1), ("word", "f", 1)))
        row = "main[] = fun a. fun b. g[a, b]\ng[x, y] = "
        first = read_family(row + "f(" * 20 + "pair(x, g[x, y])" + ")" * 20)
        second = read_family(row + "f(" * 20 + "pair(y, g[x, y])" + ")" * 20)
        self.assertEqual(program_difference(first, second), ((0,) * 23, ("var", 23), ("var", 22)))
        turned = read_family(row + "f(" * 20 + "pair(x, g[y, x])" + ")" * 20)
        self.assertEqual(program_difference(first, turned), ((0,) * 22 + (1,) + (0,) * 21, ("var", 44), ("var", 43)))

    def test_wrong_arguments(self):
        good = [KEPT, graph_of(APART)]
        for call in (alike_programs, table, program_difference):
            check_errors(self, call, (good, wrong_programs()), (good, wrong_programs()))
        check_errors(self, are_alike_to, (good, wrong_programs()[::5]), (good, wrong_programs()), ([0, 3], wrong_numbers()))
        for call in (alike_programs, table, program_difference):
            self.fails(InvalidFamily, call, KEPT, APART)


class Tables(Case):

    def pairs_of_programs(self):
        rng = random.Random(159)
        yield KEPT, graph_of(APART)
        yield graph_of(LONG), graph_of(ROLL)
        for made in some_families(160, 8):
            other = turned_family(rng, copied_family(rng, made))
            if naive_fits_in(other):
                yield Family.of(made), Family.of(other)

    def test_tables_with_something_changed(self):
        rng = random.Random(161)
        many = [0, 0]
        for first, second in self.pairs_of_programs():
            rows = table(first, second)
            one, two = outline_of(first), outline_of(second)
            for value in self.changed(rng, rows, one, two):
                wanted = is_table_of(first, second, one, two, value)
                many[wanted] += 1
                self.assertIs(is_table(first, second, value), wanted)
        self.assertGreater(min(many), 10)

    def changed(self, rng, rows, one, two):
        """Tuples of triples near this table: left out, told twice, in other orders, with other pairs and more triples."""
        for at, (place, other, pairs) in rng.sample(list(enumerate(rows)), min(len(rows), 12)):
            yield rows[:at] + rows[at + 1:]
            yield rows[:at] + rows[at:at + 1] + rows[at:]
            for changed in (pairs[1:], pairs + pairs[:1], pairs[::-1], tuple(sorted(zip([a for a, _ in pairs], [b for _, b in pairs][::-1])))):
                yield rows[:at] + ((place, other, changed),) + rows[at + 1:]
            if pairs:
                least = pairs[0]
                for changed in ((least[0], pairs[-1][1]), (pairs[-1][0], least[1])):
                    yield rows[:at] + ((place, other, tuple(sorted((*pairs, changed)))),) + rows[at + 1:]
                    yield rows[:at] + ((place, other, (changed, *pairs[1:])),) + rows[at + 1:]
        yield rows[::-1]
        for _ in range(6):
            place, other = rng.choice(sorted(one)), rng.choice(sorted(two))
            for pairs in itertools.islice(itertools.permutations(sorted(two[other][1])), 4):
                more = (place, other, tuple(zip(sorted(one[place][1]), pairs)))
                yield tuple(sorted({*rows, more}))

    def test_more_triples_than_are_reached(self):
        first, second = read_family("main[] = k()\ng[x] = f(x, g[x])"), read_family("main[] = k()\nh[y, z] = f(y, h[y, z])")
        reached = (("main", ()), ("main", ()), ())
        more = ((("g", ()), ("h", ()), (("x", "y"),)), (("g", (0,)), ("h", (0,)), (("x", "y"),)))
        self.assertEqual(table(first, second), (reached,))
        self.assertIs(is_table(first, second, (*more, reached)), True)
        self.assertIs(is_table(first, second, (more[0], reached)), False)
        self.assertIs(is_table(first, second, (more[1], reached)), True)
        self.assertIs(is_table(first, second, (reached, *more)), False)
        self.assertIs(is_table(first, second, ((("g", (0,)), ("h", (0,)), (("x", "z"),)), reached)), False)

    def test_any_value(self):
        apart = graph_of(APART)
        for value in odd_values():
            self.assertIs(is_table(KEPT, apart, value), False)
        for value in exchanged(ROWS[2:], odd_values()[:70]):
            wanted = repr(value) == repr(ROWS[2:])
            self.assertIs(is_table(KEPT, apart, ROWS[:2] + value if isinstance(value, tuple) else value), wanted, repr(value)[:200])
        self.assertIs(is_table(KEPT, apart, ((("g", ()), True, (("x", 0),)), *ROWS[1:])), False)
        self.assertIs(is_table(KEPT, apart, (ROWS[0], ROWS[1], (("g", (0, False)), 3, (("x", 0),)), ROWS[3])), False)
        self.assertIs(is_table(KEPT, apart, (*ROWS[:3], (("main", ()), False, ()))), False)
        self.assertIs(is_table(KEPT, apart, (ROWS[0], (("g", (0,)), 2, (("x", False),)), *ROWS[2:])), False)

    def test_wrong_arguments(self):
        check_errors(self, is_table, ([KEPT], wrong_programs()), ([graph_of(APART)], wrong_programs()), ([ROWS, (), None], []))


class LongOnes(Case):

    def test_rings_of_many_places(self):
        first, second = Graph.of(ring(99)), family_of(Graph.of(ring(100)))
        self.assertIs(alike_programs(first, second), True)
        rows = table(first, second)
        self.assertEqual(len(rows), 9900)
        self.assertIs(is_table(first, second, rows), True)
        self.assertIs(is_table(first, second, rows[:-1]), False)
        odd = family_of(Graph.of(ring(100, (99,))))
        self.assertEqual(program_difference(first, odd)[0], (0,) * 99)
        seldom = Graph.of(ring(97, (96,)))
        self.assertEqual(program_difference(seldom, odd), ((0,) * 96, ("word", "g", 1), ("word", "f", 1)))

    def test_many_parameters_handed_on_in_a_ring(self):
        names = "abcdefgh"
        text = "main[] = " + "".join(f"fun {name}. " for name in names) + "g[a, b, c, d, e, f, g, h]\n"
        inner = "".join("f(" for _ in range(60))
        first = read_family(text + "g[a, b, c, d, e, f, g, h] = " + inner + "pair(a, g[b, c, d, e, f, g, h, a])" + ")" * 60)
        second = read_family(text + "g[a, b, c, d, e, f, g, h] = " + inner + "pair(a, g[b, c, d, e, f, g, a, h])" + ")" * 60)
        self.assertIs(alike_programs(first, first), True)
        self.assertIs(alike_programs(first, second), False)
        address, look, other = program_difference(first, second)
        self.assertEqual((look_in(first, address), look_in(second, address)), (look, other))
        self.assertNotEqual(look, other)
        self.assertIs(are_alike_to(first, second, len(address) - 1), True)
        self.assertEqual(len(table(first, first)), 8 + 62)

    def test_a_hundred_definitions(self):
        row = {"main": ((), ("word", "f", (("call", "da", ()),)))}
        names = ["d" + a + b for a in "abcdefgh" for b in "abcdefghijklm"][:98] + ["da"]
        for name, further in zip(["da"] + names, names):
            row[name] = ((), ("call", further, ()) if name != names[-2] else ("word", "f", (("call", "main", ()),)))
        family = Family.of(row)
        self.assertEqual(len(family), 100)
        self.assertIs(alike_programs(family, graph_of(read("let x = f(x) in x"))), True)

    def test_many_needs(self):
        names = [letters("v", at) for at in range(28)]
        inner = f"let x = f({names[0]}, f({names[26]}, x)) in x"
        for name in names[1:26]:
            inner = f"f({name}, {inner})"
        graph = graph_of(read("".join(f"fun {name}. " for name in names) + inner))
        self.assertEqual(needed_at(graph, (0,) * 28), tuple((0,) * at for at in range(27)))
        self.assertIs(alike_programs(graph, graph), True)
        self.assertIs(is_table(graph, graph, table(graph, graph)), True)
        other = graph_of(read("".join(f"fun {name}. " for name in names) + inner.replace(names[26], names[27])))
        difference = ((0,) * 28 + (1,) * 26 + (0,), ("var", 29), ("var", 28))
        self.assertEqual(program_difference(graph, other)[0], difference[0])
        self.assertEqual(program_difference(graph, other)[1:], (("var", 29), ("var", 28)))


if __name__ == "__main__":
    unittest.main()
