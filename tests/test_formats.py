"""Tests of the texts of values: [21.1]."""

import random
import re
import unittest

from sharedlets.alike.differences import alike_paper, first_difference
from sharedlets.alike.matchings import widest_matching
from sharedlets.chains.chains import chain
from sharedlets.errors import InvalidAddress, InvalidGraph, InvalidOperation, ParseError, TooMany
from sharedlets.families.families import Family
from sharedlets.families.texts import read_family
from sharedlets.graphs.graphs import Graph
from sharedlets.graphs.made import graph_of
from sharedlets.terms.texts import read
from sharedlets.text.formats import (
    MAX_LINES, drawn, format_address, format_chain, format_difference, format_graph, format_paper, format_relation, parse_address, parse_chain,
    parse_difference, parse_graph, parse_paper, parse_relation,
)
from tests.helper import (
    APART, CROSS, FAMILY_TEXTS, NEST, TEXTS, Case, check_errors, children_of, exchanged, graph_pairs, long_graph, naive_is_name, naive_look,
    naive_places, odd_values, random_graph_nodes, ring, shared_tree, shown, small_values, some_families, wrong_graphs, wrong_numbers,
)

FAR = 10 ** 30
LARGE = 10 ** 40 - 1


# The values of each form by the words of the document, and the texts of such values.

def is_number(value, least, most):
    return type(value) is int and least <= value <= most


def is_plain(value):
    return isinstance(value, tuple) and all(is_number(step, 0, 2) for step in value)


def is_address(value):
    def is_pair(one):
        return isinstance(one, tuple) and len(one) == 2 and is_plain(one[0]) and one[0] != () and is_number(one[1], 0, FAR)
    return isinstance(value, tuple) and all(is_number(one, 0, 2) or is_pair(one) for one in value)


def is_look(value):
    if not isinstance(value, tuple):
        return False
    match value:
        case ("word", name, many):
            return naive_is_name(name) and is_number(many, 0, 3)
        case ("var", up):
            return is_number(up, 1, LARGE)
    return value == ("fun",)


def is_difference(value):
    return isinstance(value, tuple) and len(value) == 3 and is_plain(value[0]) and is_look(value[1]) and is_look(value[2])


def is_relation(value):
    if not isinstance(value, tuple):
        return False
    pairs = [isinstance(one, tuple) and len(one) == 2 and is_number(one[0], 0, 99) and is_number(one[1], 0, 99) for one in value]
    return all(pairs) and list(value) == sorted(set(value))


def is_paper(value):
    if not isinstance(value, tuple):
        return False
    match value:
        case ("alike", pairs):
            return is_relation(pairs)
        case ("unlike", address):
            return is_address(address)
    return False


def is_chain(value):
    if not isinstance(value, tuple) or len(value) != 3 or value[0] != "chain" or not is_plain(value[1]):
        return False
    return isinstance(value[2], tuple) and len(value[2]) > 0 and all(is_plain(one) and one != () for one in value[2])


def address_text(address):
    if address == ():
        return "-"
    return ".".join(str(one) if isinstance(one, int) else f"({'.'.join(map(str, one[0]))})*{one[1]}" for one in address)


def look_text(look):
    return {"word": lambda: f"{look[1]}/{look[2]}", "var": lambda: f"var {look[1]}", "fun": lambda: "fun"}[look[0]]()


def difference_text(value):
    return f"{address_text(value[0])}: {look_text(value[1])}, {look_text(value[2])}"


def relation_text(value):
    return " ".join(f"{one}-{two}" for one, two in value) or "-"


def paper_text(value):
    return f"{value[0]} {relation_text(value[1]) if value[0] == 'alike' else address_text(value[1])}"


def chain_text(value):
    return f"{address_text(value[1])}: {', '.join(map(address_text, value[2]))}"


def graph_text(graph):
    return "\n".join(" ".join(map(str, (*node[:2], *node[2]) if node[0] == "word" else node)) for node in graph)


ADDRESSES = [
    (), (0,), (0, 1, 2), (((0, 1), 5),), (0, ((0, 1), 5), 2), (((0,), 0),), (((2, 1, 0), FAR), ((0,), 1), 1), (((0,), 10), ((1,), 2)), (0,) * 50,
]
DIFFERENCES = [
    ((0, 1), ("word", "f", 2), ("var", 3)), ((), ("fun",), ("fun",)), ((2,), ("word", "fun" + "x", 0), ("word", "var", 3)),
    ((0,) * 30, ("var", 1), ("var", LARGE)), ((0,), ("word", "abcdefgh", 1), ("fun",)),
]
RELATIONS = [
    (), ((0, 0),), ((0, 0), (1, 3)), ((0, 99), (99, 0)), tuple((at, 99 - at) for at in range(100)), ((10, 2), (10, 10)),
]
CHAINS = [
    ("chain", (0,), ((0, 1), (0, 0, 1))), ("chain", (), ((0,),)), ("chain", (2, 1), ((0,) * 20, (1,), (2,))), ("chain", (5 - 5,), ((0,),)),
]
PAPERS = [("alike", value) for value in RELATIONS] + [("unlike", value) for value in ADDRESSES]


class Examples(Case):

    def test_texts(self):
        self.assertEqual(format_graph(graph_of(APART)), "fun 1\nfun 2\nword at 3 1\nvar 0")
        self.assertEqual(format_address((0, ((0, 1), 5), 2)), "0.(0.1)*5.2")
        self.assertEqual(parse_paper("alike 0-0 1-3"), ("alike", ((0, 0), (1, 3))))
        self.assertEqual(parse_address("-"), ())
        self.assertEqual(format_chain(CHAINS[0]), "0: 0.1, 0.0.1")
        self.assertEqual(format_difference(DIFFERENCES[0]), "0.1: f/2, var 3")
        self.assertEqual([format_relation(()), format_relation(((0, 0), (1, 3)))], ["-", "0-0 1-3"])
        self.assertEqual([format_paper(("unlike", (0, 1))), format_paper(("alike", ()))], ["unlike 0.1", "alike -"])

    def test_drawn(self):
        self.assertEqual(drawn(graph_of(APART), 3), "fun\n  fun\n    at/2\n      var 3\n      fun\n        ...")
        self.assertEqual(format_difference(first_difference(graph_of(NEST), graph_of(CROSS))), "0.1.0.0: var 2, var 4")


class Values(Case):

    FORMS = (
        (ADDRESSES, is_address, address_text, format_address, parse_address, InvalidAddress),
        (DIFFERENCES, is_difference, difference_text, format_difference, parse_difference, InvalidOperation),
        (RELATIONS, is_relation, relation_text, format_relation, parse_relation, InvalidOperation),
        (PAPERS, is_paper, paper_text, format_paper, parse_paper, InvalidOperation),
        (CHAINS, is_chain, chain_text, format_chain, parse_chain, InvalidOperation),
    )

    def test_texts_are_read_back(self):
        for values, is_one, told, write, parse, _ in self.FORMS:
            for value in values:
                self.assertTrue(is_one(value))
                self.assertEqual(write(value), told(value))
                self.assertEqual(parse(told(value)), value)
                self.assertEqual(repr(parse(told(value))), repr(value))

    def test_values_that_are_found(self):
        graphs = [(Graph.of(one), Graph.of(other)) for one, other in graph_pairs(211, 15, 25)]
        for one, other in graphs:
            paper = alike_paper(one, other)
            self.assertEqual(parse_paper(format_paper(paper)), paper)
            pairs, difference = widest_matching(one, other), first_difference(one, other)
            self.assertEqual((pairs is None) and parse_difference(format_difference(difference)), (pairs is None) and difference)
            self.assertEqual(pairs and parse_relation(format_relation(pairs)), pairs)
        for made in some_families(212, 30):
            found = chain(Family.of(made))
            self.assertEqual(found and parse_chain(format_chain(found)), found)

    def test_any_value(self):
        for values, is_one, told, write, _, wrong in self.FORMS:
            self.fails(wrong, write, shared_tree(130))
            for value in small_values() + [one for row, *_ in self.FORMS for one in row]:
                if is_one(value):
                    self.assertEqual(write(value), told(value))
                else:
                    self.fails(wrong, write, value)

    def test_values_with_a_part_exchanged(self):
        others = small_values()[::4] + [3, 99, 100, LARGE, LARGE + 1, FAR, FAR + 1, "fun", "alike", "unlike", ("var", 0), ("var", 2), ("fun",), (1,), ((1,), 2)]
        for values, is_one, told, write, parse, wrong in self.FORMS:
            many = 0
            for value in values[1:4]:
                for other in exchanged(value, others):
                    if is_one(other):
                        many += 1
                        self.assertEqual(write(other), told(other))
                        self.assertEqual(parse(told(other)), other)
                    else:
                        self.fails(wrong, write, other)
            self.assertGreater(many, 2)

    def test_numbers(self):
        for many, fits in ((LARGE, True), (LARGE + 1, False), (0, False), (1, True), (True, False), (-1, False)):
            value = ((), ("var", many), ("fun",))
            if fits:
                self.assertEqual(parse_difference(format_difference(value)), value)
            else:
                self.fails(InvalidOperation, format_difference, value)
        self.fails(ParseError, parse_difference, f"-: var {LARGE + 1}, fun")
        self.fails(ParseError, parse_difference, "-: var 0, fun")
        self.fails(ParseError, parse_difference, f"-: var 0{LARGE}, fun")
        self.fails(ParseError, parse_difference, "-: var 01, fun")
        self.assertEqual(parse_address(f"(0)*{FAR}"), (((0,), FAR),))
        self.assertEqual(parse_address("(0)*0"), (((0,), 0),))
        for text in (f"(0)*{FAR + 1}", f"(0)*{LARGE}", f"(0)*{LARGE + 1}", "(0)*00", "(0)*01", "00", "3", "(3)*1", "(00)*1", "-0", "(0)*-1", "0.-", "-.0"):
            self.fails(ParseError, parse_address, text)
        self.fails(InvalidOperation, format_difference, ((), ("word", "f", 4), ("fun",)))
        self.fails(InvalidOperation, format_difference, ((), ("word", "f", True), ("fun",)))
        self.fails(InvalidOperation, format_difference, ((), (), ("fun",)))
        self.fails(ParseError, parse_difference, "-: f/4, fun")
        for text in ("(0)*" + "1" * 5000, "0" * 5000, "(" + "1" * 5000 + ")*2"):
            self.fails(ParseError, parse_address, text)
        for pairs in (((0, 100),), ((100, 0),), ((0, 1), (0, 0)), ((0, 0), (0, 0)), ((-1, 0),)):
            self.fails(InvalidOperation, format_relation, pairs)
            self.fails(ParseError, parse_relation, relation_text(pairs))


class Texts(Case):

    def near(self, rng, text):
        """Texts with one sign left out, put in, changed, or two exchanged."""
        signs = "0129-.():,*/ afunvrwodlike\n"
        for at in range(len(text) + 1):
            yield text[:at] + text[at + 1:]
            yield text[:at] + text[at:][::-1][:1] + text[at + 1:]
            yield text[:at] + text[at:at + 1] + text[at:]
            for sign in rng.sample(signs, 7):
                yield text[:at] + sign + text[at:]
                yield text[:at] + sign + text[at + 1:]

    def test_texts_near_to_texts(self):
        rng = random.Random(213)
        for values, is_one, told, _, parse, _ in Values.FORMS:
            many = [0, 0]
            for value in values:
                for text in self.near(rng, told(value)[:80]):
                    many[self.check(parse, is_one, told, text)] += 1
            self.assertGreater(min(many), 8)

    def check(self, parse, is_one, told, text):
        """Whether a text is read; it must be that of a value then, and else no value that is near may have it."""
        try:
            value = parse(text)
        except Exception as error:
            self.assertIs(type(error), ParseError)
            self.assertIsNone(self.slowly(parse, text), text)
            return False
        self.assertTrue(is_one(value), text)
        self.assertEqual(told(value), text)
        return True

    STEPS = r"(-|[0-2](\.[0-2])*)"
    TIMES = r"(0|[1-9][0-9]{0,29}|1" + "0" * 30 + ")"
    ELEMENT = r"([0-2]|\([0-2](\.[0-2])*\)\*" + TIMES + ")"
    ADDRESS = rf"(-|{ELEMENT}(\.{ELEMENT})*)"
    NAME = r"(?!(fun|let|in)/)[a-z]{1,8}"
    LOOK = rf"(fun|var [1-9][0-9]{{0,39}}|{NAME}/[0-3])"
    PAIR = r"([0-9]|[1-9][0-9])-([0-9]|[1-9][0-9])"
    RELATION = rf"(-|{PAIR}( {PAIR})*)"
    PATTERNS = {
        "parse_address": ADDRESS, "parse_difference": rf"{STEPS}: {LOOK}, {LOOK}", "parse_relation": RELATION,
        "parse_paper": rf"(alike {RELATION}|unlike {ADDRESS})", "parse_chain": rf"{STEPS}: [0-2](\.[0-2])*(, [0-2](\.[0-2])*)*",
    }

    def slowly(self, parse, text):
        """A match if the text is one of the kind, by a pattern, where the order of pairs does not matter."""
        found = re.fullmatch(self.PATTERNS[parse.__name__], text)
        if found and ("relation" in parse.__name__ or text.startswith("alike")):
            pairs = [tuple(map(int, pair.split("-"))) for pair in re.findall(r"\d+-\d+", text)]
            return found if pairs == sorted(set(pairs)) else None
        return found

    def test_any_value(self):
        for parse in (parse_graph, parse_address, parse_difference, parse_relation, parse_paper, parse_chain):
            for value in odd_values():
                if not (isinstance(value, str) and re.fullmatch(self.PATTERNS.get(parse.__name__, "word k"), value)):
                    self.fails(ParseError, parse, value)
            for text in ("", " ", "\n", "- ", " -", "--", "0-0 ", "alike", "alike ", "unlike", "unlike ", "0:", ": 0", "0: ", "0: -", "-: -", "0: 0, ", "0: 0,0",
                         "0-0  1-1", "0-0\n1-1", "0 - 0", "0-0,1-1", "alike  0-0", "Alike 0-0", "unlike 0-0", "alike 0.1", "0: (0.1)*2", "(0)*2: 0", "(0", "(0)", "0)*2",
                         "(0)*2)*2", "((0)*2)*2", "()*2", "(0)*", "(0.)*2", "(.0)*2", ".0", "0.", "0..1", "(0)*2.", "(0)2", "0.(0.1)*5.2\n"):
                if text not in ("--",):
                    self.fails(ParseError, parse, text)


class Graphs(Case):

    def test_texts_are_read_back(self):
        rng = random.Random(214)
        graphs = [graph_of(read(text)) for text in TEXTS] + [Graph.of(nodes) for nodes in random_graph_nodes(rng, 60, 12)]
        for graph in graphs + [long_graph("f"), Graph.of(ring(99))]:
            self.assertEqual(format_graph(graph), graph_text(graph.nodes))
            self.assertEqual(parse_graph(graph_text(graph.nodes)), graph)

    def test_other_numbers(self):
        for text in ("fun 2\nvar 0\nfun 1", "word k\nword k", "word f 2 1\nword a\nword b", "fun 1\nvar 0\nvar 0", "var 0", "fun 1", "word f 1", "fun 0 0",
                     "word", "word 0", "word f 0 0 0 0", "word f 00", "word f -0", "word fun", "word f  0", "word f 0 ", " word f 0", "Word f 0", "fun", "var",
                     "word f 0\n", "\nword f 0", "fun 1\nword f 1\nvar 0", "fun 1\n\nvar 0", "word f " + "0" * 40, "word f 1" + "0" * 40, "fun 1\r\nvar 0", "let 0"):
            self.fails(ParseError, parse_graph, text)
        self.assertEqual(parse_graph("word f 0 0 0").nodes, (("word", "f", (0, 0, 0)),))

    def test_texts_near_to_texts(self):
        rng = random.Random(215)
        many = [0, 0]
        for graph in (graph_of(APART), graph_of(CROSS), Graph.of(ring(12))):
            for text in Texts.near(self, rng, format_graph(graph)):
                try:
                    found = parse_graph(text)
                except ParseError:
                    many[0] += 1
                    self.assertIsNone(self.slowly(text), text)
                else:
                    many[1] += 1
                    self.assertEqual(graph_text(found.nodes), text)
        self.assertGreater(min(many), 20)

    def slowly(self, text):
        """The graph of a text, read in a loose way, if its text is the same."""
        nodes = []
        for line in text.split("\n"):
            words = line.split(" ")
            numbers = [int(word) for word in words if word.isdigit()]
            nodes.append(("word", words[1], tuple(numbers)) if words[0] == "word" and len(words) > 1 else (words[0], *numbers))
        try:
            graph = Graph.of(tuple(nodes))
        except (InvalidGraph, TooMany):
            return None
        return graph if graph_text(graph.nodes) == text else None

    def test_a_hundred_nodes(self):
        text = graph_text(ring(100))
        self.assertEqual(len(parse_graph(text)), 100)
        self.fails(ParseError, parse_graph, graph_text(ring(101)))
        self.fails(ParseError, parse_graph, text + "\nword k")
        check_errors(self, format_graph, ([graph_of(APART)], wrong_graphs()))


def naive_drawn(graph, depth):
    """The lines of an unfolding, from all places."""
    places = naive_places(graph.nodes, depth)
    lines = []
    for address in sorted(places):
        way = places[address]
        lines.append("  " * len(address) + look_text(naive_look(graph.nodes, way)))
        if len(address) == depth and children_of(graph.nodes[way[-1]]):
            lines.append("  " * (depth + 1) + "...")
    return "\n".join(lines)


class Drawn(Case):

    def test_graphs(self):
        rng = random.Random(216)
        graphs = [graph_of(read(text)) for text in TEXTS] + [Graph.of(nodes) for nodes in random_graph_nodes(rng, 40, 12)]
        for graph in graphs:
            for depth in (0, 1, 2, 5):
                self.assertEqual(drawn(graph, depth), naive_drawn(graph, depth))

    def test_ends(self):
        leaf = graph_of(read("k()"))
        self.assertEqual([drawn(leaf, 0), drawn(leaf, 10 ** 39)], ["k/0", "k/0"])
        self.assertEqual(drawn(graph_of(read("f(k())")), 0), "f/1\n  ...")
        self.assertEqual(drawn(graph_of(read("f(k(), fun a. a)")), 1), "f/2\n  k/0\n  fun\n    ...")
        self.assertEqual(drawn(graph_of(read("f(k(), fun a. a)")), 2), "f/2\n  k/0\n  fun\n    var 1")

    def test_a_thousand_lines(self):
        self.assertEqual(MAX_LINES, 1000)
        once = graph_of(read("let x = f(x) in x"))
        self.assertEqual(len(drawn(once, 998).split("\n")), 1000)
        self.fails((TooMany, ("limit", 1000)), drawn, once, 999)
        self.fails((TooMany, ("limit", 1000)), drawn, once, 10 ** 39)
        two = graph_of(read("let x = pair(x, x) in x"))
        self.assertEqual(drawn(two, 8), naive_drawn(two, 8))
        self.fails((TooMany, ("limit", 1000)), drawn, two, 9)
        self.fails((TooMany, ("limit", 1000)), drawn, two, 10 ** 6)
        end = "k()"
        for _ in range(99):
            end = f"f({end})"
        self.assertEqual(len(drawn(graph_of(read(end)), 10 ** 6).split("\n")), 100)

    def test_wrong_arguments(self):
        check_errors(self, drawn, ([graph_of(APART)], wrong_graphs()), ([0, 3], wrong_numbers()))
        self.fails(InvalidGraph, drawn, read_family(FAMILY_TEXTS[0]), 1)


if __name__ == "__main__":
    unittest.main()
