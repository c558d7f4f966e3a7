"""What all tests share: values, generators of examples, and slow ways to work out the same results."""

import itertools
import random
import re
import unittest
from reprlib import repr as shown

from sharedlets.errors import InvalidFamily, InvalidGraph, InvalidNumber
from sharedlets.families.texts import read_family
from sharedlets.graphs.graphs import Graph
from sharedlets.terms.texts import read

ROLL = read("let x = f(g(x)) in x")
LONG = read("let x = f(g(f(g(x)))) in x")
NEST = read("let g = fun b. at(b, g) in g")
CROSS = read("let g = fun a. at(a, fun b. at(a, g)) in g")
APART = read("fun a. let g = fun b. at(a, g) in g")

# Terms with shadowed names, nested blocks, names for names, definitions that nobody uses.
TEXTS = (
    "k()",
    "fun a. a",
    "fun a. fun a. a",
    "fun a. pair(a, fun a. a)",
    "fun a. pair(fun b. a, fun b. b)",
    "fun a. let a = f(a) in a",
    "let a = fun a. f(a, fun b. b) in g(a, let a = k() in a)",
    "let x = f(g(x)) in x",
    "let x = f(g(f(g(x)))) in x",
    "let g = fun b. at(b, g) in g",
    "let g = fun a. at(a, fun b. at(a, g)) in g",
    "fun a. let g = fun b. at(a, g) in g",
    "let x = y; y = z; z = f(x, y, z) in x",
    "let z = f(x, y, z); x = y; y = z in g(let y = x in y, y)",
    "let x = k(); y = x; z = m(z) in pair(y, fun a. x)",
    "let x = let y = f(x) in y in x",
    "let x = let x = f(x) in x in g(x)",
    "fun a. let y = a; z = y in pair(z, fun a. pair(a, y))",
    "fun a. let y = fun b. f(a, b, z); z = fun c. g(a, c, y) in pair(y, z)",
    "let one = fun a. two; two = fun b. one in pair(one, two)",
    "let f = f(f) in f",
    "fun v. let g = fun w. pair(v, h); h = fun v. pair(v, g) in g",
    "fun a. fun b. let g = fun c. word(b, g, c) in pair(g, a)",
    "fun a. let x = fun b. let y = fun c. f(b, x, y) in y in g(x, a)",
    "fun a. let x = b(y); y = fun b. f(b, x, a); n = m(n) in let z = y in z",
)


class Case(unittest.TestCase):
    """Tests with a check for errors: the class must be just this one, with just this value; nothing is changed."""

    def fails(self, wanted, call, *args, **more):
        kind, attribute = wanted if isinstance(wanted, tuple) else (wanted, None)
        passed = [value for value in args + tuple(more.values()) if isinstance(value, (list, dict))]
        before = snapshot(passed)
        try:
            result = call(*args, **more)
        except Exception as error:
            self.assertIs(type(error), kind, f"{call} {shown(args)} {shown(more)}")
            self.assertEqual(passed, before)
            if attribute is not None:
                name, value = attribute
                self.assertIs(type(getattr(error, name)), type(value))
                self.assertEqual(getattr(error, name), value)
            return
        self.fail(f"no error: {call} {shown(args)} {shown(more)} gave {shown(result)}")


def snapshot(value):
    """A copy of what can be changed: lists and dicts, also in one another."""
    if isinstance(value, list):
        return [snapshot(one) for one in value]
    if isinstance(value, dict):
        return {key: snapshot(one) for key, one in value.items()}
    return value


def nested(make, many):
    value = make(None)
    for _ in range(many):
        value = make(value)
    return value


def shared_tree(levels):
    """The form of an open term with far too many parts to look at each of them."""
    part = ("name", "x")
    for _ in range(levels - 1):
        part = ("word", "f", (part, part))
    return part


def chain(levels):
    """An open term with so many levels, and as many parts."""
    part = ("word", "k", ())
    for number in range(levels - 1):
        part = ("word", "f", (part,)) if number % 2 else ("fun", "x", part)
    return part


def fun_row(many, part):
    """The part in so many functions."""
    for _ in range(many):
        part = ("fun", "a", part)
    return part


def wide(parts):
    """A term with so many parts on few levels."""
    rest = parts - 1
    sizes = [size for size in (rest // 3, (rest + 1) // 3, (rest + 2) // 3) if size > 0]
    return ("word", "f", tuple(wide(size) for size in sizes))


def odd_values():
    """Values of all kinds that [0.4] tells, made anew for each call."""
    return small_values() + [shared_tree(130)]


def small_values():
    """The same without a value that has far too many parts to look at each of them."""
    graph = Graph(("fun", 1), ("var", 0))
    return [
        None, True, False, 0, 1, 2, 3, -1, 10 ** 30, 10 ** 40 - 1, -(10 ** 40) + 1,
        "", "x", "word", "fun", "let", "in", "X", "a b", "a1", "a_", "\n", "x\n", "abcdefgh", "abcdefghi", "~", " x",
        (), ("x",), ("x", "y"), (0,), (0, 1), (True,), (None,), ((),), [], ["x"], [0], {}, {"x": 1}, {1: "x"}, {(): ()},
        ("name",), ("name", "x"), ["name", "x"], ("name", "x", "y"), ("name", 3), ("name", "fun"), ("name", None),
        ("word", "f"), ("word", "f", ()), ("word", "f", []), ("word", "f", (("name", "x"),) * 4), ("word", 1, ()),
        ("word", "f", ("x",)), ("word", "f", (0,)), ("word", "f", (), ()), ("word", "let", ()),
        ("fun", "x"), ("fun", "x", ("name", "x")), ("fun", "in", ("name", "x")), ("fun", "x", "x"), ("fun", 0), ("fun", 1),
        ("var", 0), ("var", 1), ("var", True), ("fun", True), ("fun", None),
        ("let", (), ("name", "x")), ("let", (("x", ("name", "x")),), ("name", "x")), ("let", {"x": ("name", "x")}, ("name", "x")),
        ("let", (("x", ("word", "k", ())), ("x", ("word", "k", ()))), ("name", "x")), ("let", (("x",),), ("name", "x")),
        ("let", (["x", ("word", "k", ())],), ("name", "x")), ("let", (("x", ("word", "k", ())),)),
        ((0, 1), 2), ((0,), 0), (((0,), 1),), (((), 1),), (((0, 3), 1),), (((0,), -1),), (((0,), True),), (([0], 1),),
        (((0,), 10 ** 30),), (((0,), 10 ** 30 + 1),), ((((0,), 1), 1),),
        nested(lambda value: (value,), 9), nested(lambda value: [value], 9), nested(lambda value: {"x": value}, 9),
        chain(121), chain(130), wide(501), graph, (graph,), [graph], ("name", graph), (graph, graph, graph),
        ("word", "f", (graph,)), ("fun", graph), TEXTS[0], TEXTS[7],
    ]


def letters(letter, number):
    """The letter, and behind it the number counted a, .., z, aa, .., zz."""
    alphabet = "abcdefghijklmnopqrstuvwxyz"
    if number < 26:
        return letter + alphabet[number]
    return letter + alphabet[number // 26 - 1] + alphabet[number % 26]


def exchanged(value, others):
    """All values that come out if one part of this one, perhaps all of it, is exchanged for another one."""
    yield from others
    if isinstance(value, tuple):
        for at, inner in enumerate(value):
            for other in exchanged(inner, others):
                yield value[:at] + (other,) + value[at + 1:]
        yield value + (None,)
        yield value[:-1]
        yield list(value)


# Slow ways over terms, each by the words of the document.

def naive_is_name(value):
    return isinstance(value, str) and bool(re.fullmatch("[a-z]{1,8}", value)) and value not in ("fun", "let", "in")


def naive_is_open(value):
    """Whether the value is an open term."""
    left = [500]

    def is_built(part, levels):
        left[0] -= 1
        if levels == 0 or left[0] < 0 or not isinstance(part, tuple):
            return False
        match part:
            case ("name", x):
                return naive_is_name(x)
            case ("word", w, terms):
                return naive_is_name(w) and isinstance(terms, tuple) and len(terms) <= 3 and all(
                    is_built(term, levels - 1) for term in terms)
            case ("fun", x, term):
                return naive_is_name(x) and is_built(term, levels - 1)
            case ("let", pairs, term):
                if not isinstance(pairs, tuple) or not 1 <= len(pairs) <= 100:
                    return False
                if not all(isinstance(pair, tuple) and len(pair) == 2 and naive_is_name(pair[0]) for pair in pairs):
                    return False
                names = [name for name, _ in pairs]
                if len(names) != len(dict.fromkeys(names)):
                    return False
                return all(is_built(one, levels - 1) for one in [one for _, one in pairs] + [term])
        return False

    return is_built(value, 120)


def naive_inner(part):
    match part[0]:
        case "name":
            return ()
        case "word":
            return part[2]
        case "fun":
            return (part[2],)
    return tuple(term for _, term in part[1]) + (part[2],)


def naive_size(part):
    return 1 + sum(naive_size(inner) for inner in naive_inner(part))


def naive_levels(part):
    return 1 + max([naive_levels(inner) for inner in naive_inner(part)], default=0)


def naive_paths(part):
    paths = [()]
    for at, inner in enumerate(naive_inner(part)):
        paths += [(at,) + path for path in naive_paths(inner)]
    return paths


def naive_at(part, path):
    for step in path:
        part = naive_inner(part)[step]
    return part


def naive_put(part, path, other):
    if path == ():
        return other
    inner = list(naive_inner(part))
    inner[path[0]] = naive_put(inner[path[0]], path[1:], other)
    if part[0] == "word":
        return ("word", part[1], tuple(inner))
    if part[0] == "fun":
        return ("fun", part[1], inner[0])
    return ("let", tuple((pair[0], term) for pair, term in zip(part[1], inner)), inner[-1])


def naive_binder(part, path):
    """The path of what the use at this path belongs to, and the number of the definition, or None for a function."""
    name = naive_at(part, path)[1]
    for length in range(len(path) - 1, -1, -1):
        around = naive_at(part, path[:length])
        if around[0] == "fun" and around[1] == name:
            return path[:length], None
        if around[0] == "let" and name in dict(around[1]):
            return path[:length], [one for one, _ in around[1]].index(name)
    return None


def naive_head(part, path):
    """The path of the head, or None."""
    seen = []
    while path not in seen:
        seen.append(path)
        one = naive_at(part, path)
        if one[0] in ("word", "fun"):
            return path
        if one[0] == "let":
            path += (len(one[1]),)
            continue
        found = naive_binder(part, path)
        if found is None:
            return None
        if found[1] is None:
            return path
        path = found[0] + (found[1],)
    return None


def naive_free(part):
    uses = [path for path in naive_paths(part) if naive_at(part, path)[0] == "name"]
    return tuple(sorted({naive_at(part, path)[1] for path in uses if naive_binder(part, path) is None}))


def naive_is_term(part):
    if not naive_is_open(part) or naive_free(part):
        return False
    blocks = [path for path in naive_paths(part) if naive_at(part, path)[0] == "let"]
    places = [path + (at,) for path in blocks for at in range(len(naive_at(part, path)[1]))]
    return all(naive_head(part, path) is not None for path in places)


def naive_read(text):
    """The open term with a text, or None."""
    found = _read_term(text)
    if found is None or found[1] != "" or not naive_is_open(found[0]):
        return None
    return found[0]


def _read_term(text):
    if begin := re.match(r"fun ([a-z]+)\. ", text):
        body = _read_term(text[begin.end():])
        return body and (("fun", begin[1], body[0]), body[1])
    if text.startswith("let "):
        return _read_block(text[4:])
    if begin := re.match(r"([a-z]+)\(", text):
        return _read_word(begin[1], text[begin.end():])
    if begin := re.match(r"[a-z]+", text):
        return ("name", begin[0]), text[begin.end():]
    return None


def _read_word(name, text):
    if text.startswith(")"):
        return ("word", name, ()), text[1:]
    terms = []
    while found := _read_term(text):
        terms.append(found[0])
        text = found[1]
        if text.startswith(")"):
            return ("word", name, tuple(terms)), text[1:]
        if not text.startswith(", "):
            return None
        text = text[2:]
    return None


def _read_block(text):
    pairs = []
    while begin := re.match("([a-z]+) = ", text):
        found = _read_term(text[begin.end():])
        if found is None:
            return None
        pairs.append((begin[1], found[0]))
        text = found[1]
        if text.startswith(" in "):
            body = _read_term(text[4:])
            return body and (("let", tuple(pairs), body[0]), body[1])
        if not text.startswith("; "):
            return None
        text = text[2:]
    return None


def random_part(rng, levels, names=("a", "b", "g", "x")):
    """Any open term with at most so many levels."""
    kind = rng.choice(("name", "word", "fun", "let")) if levels > 1 else rng.choice(("name", "none"))
    if kind == "name":
        return ("name", rng.choice(names))
    if kind == "none":
        return ("word", "k", ())
    if kind == "word":
        terms = tuple(random_part(rng, levels - 1, names) for _ in range(rng.randrange(4)))
        return ("word", rng.choice(("f", "g")), terms)
    if kind == "fun":
        return ("fun", rng.choice(names), random_part(rng, levels - 1, names))
    defined = rng.sample(names, rng.randrange(1, min(3, len(names)) + 1))
    pairs = tuple((name, random_part(rng, levels - 1, names)) for name in defined)
    return ("let", pairs, random_part(rng, levels - 1, names))


def random_terms(rng, many, levels=5):
    """So many terms, all with uses of variables or definitions."""
    found = []
    while len(found) < many:
        part = ("fun", "a", random_part(rng, levels, ("a", "b", "g")))
        part = ("let", (("g", part), ("b", random_part(rng, levels, ("g", "b")))), ("name", rng.choice("gb")))
        if naive_is_term(part):
            found.append(part)
    return found


# Slow ways over unfoldings: the places of a term are gone through with the copies of all functions around.

def term_looks(term, depth):
    """A dict from the plain addresses down to this depth to the looks."""
    looks = {}
    waiting = [((), (), {})]
    while waiting:
        address, path, copies = waiting.pop()
        path = naive_head(term, path)
        copies = {function: at for function, at in copies.items() if path[:len(function)] == function}
        one = naive_at(term, path)
        if one[0] == "name":
            looks[address] = ("var", len(address) - copies[naive_binder(term, path)[0]])
            continue
        looks[address] = ("fun",) if one[0] == "fun" else ("word", one[1], len(one[2]))
        if one[0] == "fun":
            copies = {**copies, path: len(address)}
        if len(address) < depth:
            waiting += [(address + (at,), path + (at,), copies) for at in range(len(naive_inner(one)))]
    return looks


def children_of(node):
    return {"word": node[-1], "fun": node[1:], "var": ()}[node[0]]


def naive_places(nodes, depth):
    """A dict from the plain addresses down to this depth to the tuples of the nodes on the way."""
    places = {(): (0,)}
    level = places
    for _ in range(depth):
        level = {
            address + (at,): way + (child,)
            for address, way in level.items() for at, child in enumerate(children_of(nodes[way[-1]]))
        }
        places = {**places, **level}
    return places


def naive_way(nodes, address):
    """The nodes on the way of a plain address, or None if it leads out of the tree."""
    way = (0,)
    for step in address:
        children = children_of(nodes[way[-1]])
        if step >= len(children):
            return None
        way += (children[step],)
    return way


def nearest(way, function):
    """The length of the address of the nearest copy of the function above the last place of the way."""
    return max(at for at, node in enumerate(way[:-1]) if node == function)


def naive_look(nodes, way):
    node = nodes[way[-1]]
    if node[0] == "word":
        return ("word", node[1], len(node[2]))
    if node[0] == "fun":
        return ("fun",)
    return ("var", len(way) - 1 - nearest(way, node[1]))


# Slow ways over graphs.

def naive_needs(nodes):
    """For each node the set of the functions that it needs: the least sets."""
    needs = [{node[1]} if node[0] == "var" else set() for node in nodes]
    while True:
        more = [
            needs[at] | set().union(*[needs[child] for child in children_of(node)]) - ({at} if node[0] == "fun" else set())
            for at, node in enumerate(nodes)
        ]
        if more == needs:
            return needs
        needs = more


def naive_innermost(needs, node):
    found = [one for one in needs[node] if needs[node] - {one} <= needs[one]]
    assert len(found) == (1 if needs[node] else 0)
    return found[0] if found else None


def naive_scope(needs, node):
    function = naive_innermost(needs, node)
    return () if function is None else naive_scope(needs, function) + (function,)


def naive_is_node(node, nodes):
    def is_number(value):
        return type(value) is int and value in range(len(nodes))
    if not isinstance(node, tuple):
        return False
    match node:
        case ("word", w, children):
            return naive_is_name(w) and isinstance(children, tuple) and len(children) <= 3 and all(map(is_number, children))
        case ("fun", child):
            return is_number(child)
        case ("var", function):
            return is_number(function) and isinstance(nodes[function], tuple) and nodes[function][:1] == ("fun",)
    return False


def naive_are_nodes(nodes):
    """Whether the value is a tuple of the nodes of a graph, numbered in any way."""
    if not isinstance(nodes, tuple) or not nodes or not all(naive_is_node(node, nodes) for node in nodes):
        return False
    owners = [node[1] for node in nodes if node[0] == "var"]
    return len(owners) == len(set(owners)) and not naive_needs(nodes)[0]


def naive_numbered(nodes, root=0):
    """The nodes in the first walk, by its words."""
    numbers = {}

    def walk(node):
        if node not in numbers:
            numbers[node] = len(numbers)
            for child in children_of(nodes[node]):
                walk(child)

    walk(root)
    made = []
    for old in numbers:
        node = nodes[old]
        if node[0] == "word":
            made.append(("word", node[1], tuple(numbers[child] for child in node[2])))
        else:
            made.append((node[0], numbers[node[1]]))
    return tuple(made)


def naive_reached(nodes, node):
    found, waiting = set(), [node]
    while waiting:
        one = waiting.pop()
        if one not in found:
            found.add(one)
            waiting += children_of(nodes[one])
    return found


def random_nodes(rng, many):
    """A tuple of nodes with numbers that are there; most functions have a variable."""
    kinds = [rng.choice(("fun", "word")) for _ in range(many)]
    owners = [at for at, kind in enumerate(kinds) if kind == "fun" and rng.random() < 0.9]
    total = many + len(owners)
    nodes = []
    for kind in kinds:
        if kind == "fun":
            nodes.append(("fun", rng.randrange(total)))
        else:
            children = tuple(rng.randrange(total) for _ in range(rng.choice((0, 1, 2, 2, 3))))
            nodes.append(("word", rng.choice("fg"), children))
    return tuple(nodes + [("var", owner) for owner in owners])


def scoped_nodes(rng, many):
    """The nodes of a graph, all of them reached; the functions that a node may need stand in its row."""
    rows, nodes, variables, waiting = [], [], {}, []

    def add(row, node):
        rows.append(row)
        nodes.append(node)
        return len(rows) - 1

    def add_any(row):
        at = add(row, rng.choice(("fun", "word")))
        inner = row + (at,) if nodes[at] == "fun" else row
        waiting.append((at, inner, 1 if nodes[at] == "fun" else rng.choice((0, 1, 2, 2, 3, 3))))
        return at

    def child(row):
        if len(rows) < many and rng.random() < 0.6:
            return add_any(row if rng.random() < 0.7 else row[:rng.randrange(len(row) + 1)])
        if row and rng.random() < 0.6:
            function = rng.choice(row)
            if function not in variables:
                variables[function] = add(rows[function] + (function,), ("var", function))
            return variables[function]
        near = [at for at in range(len(rows)) if rows[at] == row[:len(rows[at])]]
        return rng.choice(near)

    add_any(())
    while waiting:
        at, row, places = waiting.pop(rng.randrange(len(waiting)))
        children = tuple(child(row) for _ in range(places))
        nodes[at] = ("fun",) + children if nodes[at] == "fun" else ("word", rng.choice("fg"), children)
    return tuple(nodes)


def random_graph_nodes(rng, many, size, needed=2):
    """So many tuples of nodes that are graphs, numbered in any way, in which so many variables are reached."""
    found = []
    while len(found) < many:
        nodes = mixed(rng, scoped_nodes(rng, size))
        if sum(nodes[node][0] == "var" for node in naive_reached(nodes, 0)) >= needed:
            found.append(nodes)
    return found


def mixed(rng, nodes):
    """The same nodes in another order, the root still the first one."""
    order = [0] + rng.sample(range(1, len(nodes)), len(nodes) - 1)
    places = {old: new for new, old in enumerate(order)}
    made = []
    for old in order:
        node = nodes[old]
        if node[0] == "word":
            made.append(("word", node[1], tuple(places[child] for child in node[2])))
        else:
            made.append((node[0], places[node[1]]))
    return tuple(made)


# Wrong arguments, alone and in several parameters at once.

def wrong_graphs():
    """Pairs (value, wanted error) of values that are no graphs."""
    values = odd_values() + [ROLL, (("fun", 1), ("var", 0)), "graph of 1 nodes, 0 functions"]
    return [(value, InvalidGraph) for value in values if not isinstance(value, Graph)]


def wrong_numbers(limit=None):
    """Likewise of values that are not integers from 0 to less than the limit."""
    values = [-1, -(10 ** 40) + 1, None, True, False, "", "0", (), (0,), [], [0], {}, {0: 0}, Graph(("word", "k", ()))]
    values += [] if limit is None else [limit, limit + 1, 10 ** 40 - 1]
    return [(value, (InvalidNumber, ("value", value))) for value in values]


def check_errors(case, call, *params):
    """Try each wrong argument beside all kinds of arguments behind it.

    A parameter is a pair: a list of good values, and a list of pairs (wrong value, wanted error).
    """
    for at, (_, wrong) in enumerate(params):
        before = [good[0] for good, _ in params[:at]]
        behind = [[good[0], *[value for value, _ in bad[:2]]] for good, bad in params[at + 1:]]
        for value, wanted in wrong:
            for rest in itertools.product(*behind):
                case.fails(wanted, call, *before, value, *rest)


def first_of(generator):
    """The function that asks a generator function for its first result."""
    def call(*args):
        return next(generator(*args))
    return call


# Pairs of graphs, and slow ways to compare them.

def doubled(rng, term, letter="u"):
    """A term with the same unfolding in which each definition stands twice, under another name the second time."""
    fresh = iter([letters(letter, number) for number in range(26 * 27)])

    def copied(part, names):
        match part:
            case ("name", x):
                return ("name", rng.choice(names.get(x, (x,))))
            case ("word", w, terms):
                return ("word", w, tuple(copied(one, names) for one in terms))
            case ("fun", x, body):
                return ("fun", x, copied(body, {**names, x: (x,)}))
        inner = {**names, **{x: (x, next(fresh)) for x, _ in part[1]}}
        rows = [(name, copied(one, inner)) for x, one in part[1] for name in inner[x]]
        return ("let", tuple(rows), copied(part[2], inner))

    return copied(term, {})


def rich_term(rng, levels, names=()):
    """A term in which many variables are used, below several functions; the names are those that can be used."""
    fresh = letters(rng.choice("abcdxyz"), len(names))
    chance = rng.random()
    if levels == 1 or (names and chance < 0.2):
        return ("name", rng.choice(names)) if names else ("word", "k", ())
    if chance < 0.5:
        return ("word", rng.choice("fg"), tuple(rich_term(rng, levels - 1, names) for _ in range(rng.randrange(1, 4))))
    if chance < 0.8:
        return ("fun", fresh, rich_term(rng, levels - 1, names + (fresh, fresh)))
    defined = (fresh, letters("q", len(names)))[:rng.randrange(1, 3)]
    inner = names + defined
    rows = tuple((name, ("word", "h", (rich_term(rng, levels - 1, inner),)) if rng.random() < 0.5 else
                  ("fun", "e", rich_term(rng, levels - 1, inner + ("e",)))) for name in defined)
    return ("let", rows, rich_term(rng, levels - 1, inner))


def rich_terms(rng, many, levels=7, most=60):
    """So many terms whose graphs have at most so many nodes, and nodes that need several functions."""
    found = []
    while len(found) < many:
        term = rich_term(rng, levels)
        if not naive_is_term(term):
            continue
        nodes = naive_graph(term)
        if len(nodes) <= most and max(map(len, naive_needs(nodes))) > 1:
            found.append(term)
    return found


def alike_nodes(rng, many, most=60):
    """So many pairs of tuples of nodes with the same unfolding, each with at most so many nodes."""
    found = []
    while len(found) < many:
        term = random_terms(rng, 1, 6)[0] if len(found) % 2 else rich_terms(rng, 1)[0]
        other = doubled(rng, term)
        if naive_is_open(term) and naive_is_open(other):
            pair = (naive_graph(term), naive_graph(other))
            if max(map(len, pair)) <= most and rng.random() < len(pair[1]) / 12:
                found.append(pair)
    return found


def naive_graph(term):
    """The nodes of the graph of a term, by the words of [0.14]."""
    numbers, nodes = {}, []

    def node_for(path):
        head = naive_head(term, path)
        one = naive_at(term, head)
        key = ("var", naive_binder(term, head)[0]) if one[0] == "name" else head
        if key not in numbers:
            numbers[key] = len(nodes)
            nodes.append(None)
            if one[0] == "name":
                nodes[numbers[key]] = ("var", numbers[key[1]])
            elif one[0] == "fun":
                nodes[numbers[key]] = ("fun", node_for(head + (0,)))
            else:
                nodes[numbers[key]] = ("word", one[1], tuple(node_for(head + (at,)) for at in range(len(one[2]))))
        return numbers[key]

    node_for(())
    return tuple(nodes)


def changed_nodes(rng, nodes):
    """The nodes of a graph with one word, child or variable changed, in the order of the first walk."""
    for _ in range(200):
        made = list(nodes)
        at = rng.randrange(len(nodes))
        node = nodes[at]
        if node[0] == "word" and rng.random() < 0.3:
            made[at] = ("word", rng.choice("fgm"), node[2])
        elif node[0] == "word":
            children = list(node[2]) or [0]
            children[rng.randrange(len(children))] = rng.randrange(len(nodes))
            made[at] = ("word", node[1], tuple(children))
        else:
            made[at] = (node[0], rng.randrange(len(nodes)))
        if made[at] != node and naive_are_nodes(tuple(made)):
            return naive_numbered(tuple(made))
    return (("word", "other", ()),)


def graph_pairs(seed, alike=40, others=60):
    """Pairs of tuples of nodes: alike ones, such as differ in one place, and any others."""
    rng = random.Random(seed)
    found = alike_nodes(rng, alike)
    found += [(one, changed_nodes(rng, two)) for one, two in alike_nodes(rng, others)]
    for size in (4, 7, 12):
        rows = [naive_numbered(nodes) for nodes in random_graph_nodes(rng, 12, size, 1)]
        found += [(nodes, changed_nodes(rng, nodes)) for nodes in rows] + list(zip(rows, rows[1:])) + [(rows[0], rows[0])]
    named = [naive_graph(term) for term in (ROLL, LONG, NEST, CROSS, APART)]
    return found + [(one, two) for one in named for two in named]


def naive_scopes(nodes):
    needs = naive_needs(nodes)
    return [naive_scope(needs, node) for node in range(len(nodes))]


def naive_demands(nodes, others, scopes, other_scopes, pair):
    """The set of the pairs that [0.15] asks for beside this one, or None; without scopes if those are None."""
    one, two = nodes[pair[0]], others[pair[1]]
    if one[0] != two[0] or (one[0] == "word" and (one[1], len(one[2])) != (two[1], len(two[2]))):
        return None
    found = set(zip(children_of(one), children_of(two)))
    if one[0] == "var":
        found.add((one[1], two[1]))
    if scopes is not None:
        if len(scopes[pair[0]]) != len(other_scopes[pair[1]]):
            return None
        found |= set(zip(scopes[pair[0]], other_scopes[pair[1]]))
    return found


def naive_matching_pairs(nodes, others, scoped=True):
    """The set of all matching pairs: those that cannot match are struck out, until nothing changes."""
    scopes = (naive_scopes(nodes), naive_scopes(others)) if scoped else (None, None)
    pairs = {(one, two) for one in range(len(nodes)) for two in range(len(others))}
    needed = {pair: naive_demands(nodes, others, *scopes, pair) for pair in pairs}
    while True:
        kept = {pair for pair in pairs if needed[pair] is not None and needed[pair] <= pairs}
        if kept == pairs:
            return kept
        pairs = kept


def naive_is_matching(nodes, others, value):
    if not isinstance(value, tuple) or (0, 0) not in value:
        return False
    for pair in value:
        if not (isinstance(pair, tuple) and len(pair) == 2 and type(pair[0]) is int and type(pair[1]) is int):
            return False
        if pair[0] not in range(len(nodes)) or pair[1] not in range(len(others)):
            return False
    if any(not one < two for one, two in zip(value, value[1:])):
        return False
    scopes = (naive_scopes(nodes), naive_scopes(others))
    needed = [naive_demands(nodes, others, *scopes, pair) for pair in value]
    return all(demanded is not None and demanded <= set(value) for demanded in needed)


def naive_met(nodes, others):
    """The ascending tuple of the pairs to which addresses lead in both, as far as both have the places."""
    met, waiting = set(), [(0, 0)]
    while waiting:
        pair = waiting.pop()
        if pair not in met:
            met.add(pair)
            waiting += zip(children_of(nodes[pair[0]]), children_of(others[pair[1]]))
    return tuple(sorted(met))


def naive_closed(nodes, pairs):
    """The division, as a set of frozensets, in which these matching pairs are joined, and what must be joined then."""
    scopes = naive_scopes(nodes)
    sets = {node: frozenset([node]) for node in range(len(nodes))}
    waiting = list(pairs)
    while waiting:
        one, two = waiting.pop()
        if sets[one] != sets[two]:
            both = sets[one] | sets[two]
            sets.update({node: both for node in both})
            waiting += [pair for left in both for right in both
                        for pair in naive_demands(nodes, nodes, scopes, scopes, (left, right))]
    return set(sets.values())


def naive_quotient(nodes, division):
    """The nodes, numbered anew, in which each set of a division has become one."""
    lead = {node: min(part) for part in division for node in part}
    made = {}
    for node in sorted(set(lead.values())):
        one = nodes[node]
        if one[0] == "word":
            made[node] = ("word", one[1], tuple(lead[child] for child in one[2]))
        else:
            made[node] = (one[0], lead[one[1]])
    order = sorted(made)
    places = {old: new for new, old in enumerate(order)}
    rows = []
    for old in order:
        one = made[old]
        passed = tuple(places[child] for child in one[2]) if one[0] == "word" else places[one[1]]
        rows.append(("word", one[1], passed) if one[0] == "word" else (one[0], passed))
    return naive_numbered(tuple(rows))


def naive_difference(nodes, others, most):
    """The first difference, as a triple, or None if there is none among the first places, so many."""
    level = [((), (0,), (0,))]
    while level and most > 0:
        further = []
        for address, way, other in level:
            looks = (naive_look(nodes, way), naive_look(others, other))
            if looks[0] != looks[1]:
                return (address, *looks)
            pairs = zip(children_of(nodes[way[-1]]), children_of(others[other[-1]]))
            further += [(address + (at,), way + (one,), other + (two,)) for at, (one, two) in enumerate(pairs)]
        most -= len(level)
        level = further
    return None


def ring(many, odd=()):
    """The nodes of a ring of words, some of them other ones."""
    return tuple(("word", "g" if at in odd else "f", ((at + 1) % many,)) for at in range(many))


# Slow ways over bodies and families.

def naive_are_variables(value):
    return isinstance(value, tuple) and len(value) <= 8 and all(map(naive_is_name, value)) and len(set(value)) == len(value)


def naive_body_size(value):
    """How many words and functions a body has, or None if the value is not built like a body."""
    if not isinstance(value, tuple):
        return None
    match value:
        case ("name", x) if naive_is_name(x):
            return 0
        case ("call", name, names) if naive_is_name(name) and naive_are_variables(names):
            return 0
        case ("fun", x, body) if naive_is_name(x):
            inner = naive_body_size(body)
            return None if inner is None else inner + 1
        case ("word", w, bodies) if naive_is_name(w) and isinstance(bodies, tuple) and len(bodies) <= 3:
            inner = [naive_body_size(body) for body in bodies]
            return None if None in inner else sum(inner) + 1
    return None


def naive_is_body(value):
    size = naive_body_size(value)
    return size is not None and size <= 100


def body_inner(part):
    return {"word": part[-1], "fun": part[2:]}.get(part[0], ())


def body_paths(part):
    """The paths of the uses of variables, words and functions in a body, ascending."""
    if part[0] == "call":
        return []
    return [()] + [(at,) + path for at, inner in enumerate(body_inner(part)) for path in body_paths(inner)]


def body_at(body, path):
    for step in path:
        body = body_inner(body)[step]
    return body


def naive_fits(definitions, body, names):
    """Whether a body uses only variables and definitions that are there."""
    match body[0]:
        case "name":
            return body[1] in names
        case "call":
            return body[1] in definitions and len(definitions[body[1]][0]) == len(body[2]) and set(body[2]) <= set(names)
        case "fun":
            return naive_fits(definitions, body[2], [*names, body[1]])
    return all(naive_fits(definitions, inner, names) for inner in body[2])


def naive_is_family(definitions):
    """Whether there is a family with these definitions, but for how many words and functions there are."""
    if not isinstance(definitions, dict) or len(definitions) not in range(1, 101) or not all(map(naive_is_name, definitions)):
        return False
    for pair in definitions.values():
        if not isinstance(pair, tuple) or len(pair) != 2 or not naive_are_variables(pair[0]) or naive_body_size(pair[1]) is None:
            return False
    if "main" not in definitions or definitions["main"][0]:
        return False
    if not all(naive_fits(definitions, body, names) for names, body in definitions.values()):
        return False
    return all(naive_end(definitions, name) is not None for name in definitions)


def naive_end(definitions, name):
    """The definition whose body is no call to which a call of this one leads, or None."""
    seen = []
    while name not in seen:
        seen.append(name)
        if definitions[name][1][0] != "call":
            return name
        name = definitions[name][1][1]
    return None


def naive_lead(definitions, name, path, names):
    """The place to which what stands at a path of a body leads, and what is handed on there; names has what is here."""
    part = body_at(definitions[name][1], path)
    while part[0] == "call":
        name, path = part[1], ()
        names = dict(zip(definitions[name][0], [names[variable] for variable in part[2]]))
        part = definitions[name][1]
    return name, path, names


def naive_below(definitions, name, path, names):
    """The last items of the values in names of all variables that are used at or below a place."""
    found, seen = set(), set()
    waiting = [(name, path, names)]
    while waiting:
        name, path, names = naive_lead(definitions, *waiting.pop())
        key = (name, path, tuple(sorted(names.items())))
        if key in seen:
            continue
        seen.add(key)
        part = body_at(definitions[name][1], path)
        if part[0] == "name":
            found.add(names[part[1]])
        inner = {**names, part[1]: ""} if part[0] == "fun" else names
        waiting += [(name, path + (at,), inner) for at in range(len(body_inner(part)))]
    return found - {""}


def naive_needs_of(definitions, name, path):
    """The needs of a place, or what a call there needs, ascending."""
    names, body = set(definitions[name][0]), definitions[name][1]
    for length in range(len(path)):
        part = body_at(body, path[:length])
        names |= {part[1]} if part[0] == "fun" else set()
    return tuple(sorted(naive_below(definitions, name, path, {one: one for one in names})))


def random_body(rng, definitions, names, levels):
    """Any body with calls of these definitions, which have so many parameters, and with these variables."""
    chance = rng.random()
    called = rng.choice(sorted(definitions))
    visible = sorted(set(names))
    if levels <= 1 or chance < 0.15:
        if rng.random() < 0.7 and len(visible) >= definitions[called]:
            return ("call", called, tuple(rng.sample(visible, definitions[called])))
        return ("name", rng.choice(visible)) if visible else ("word", "k", ())
    if chance < 0.2 and visible:
        return ("name", rng.choice(visible))
    if chance < 0.5:
        variable = rng.choice("abxy")
        return ("fun", variable, random_body(rng, definitions, [*names, variable], levels - 1))
    bodies = tuple(random_body(rng, definitions, names, levels - 1) for _ in range(rng.choice((0, 1, 2, 2, 3))))
    return ("word", rng.choice("fg"), bodies)


def random_definitions(rng, many, levels=4):
    """So many dicts of the definitions of families."""
    found = []
    while len(found) < many:
        parameters = {name: tuple(rng.sample("abcxyz", rng.randrange(4))) for name in rng.sample(["g", "h", "p", "q", "r"], rng.randrange(6))}
        parameters["main"] = ()
        counts = {name: len(row) for name, row in parameters.items()}
        made = {name: (row, random_body(rng, counts, row, levels)) for name, row in parameters.items()}
        if naive_is_family(made) and sum(naive_body_size(body) for _, body in made.values()) <= 100:
            found.append(made)
    return found


def odd_bodies():
    """Values that are bodies, or nearly."""
    many = tuple(letters("v", at) for at in range(9))
    return [
        ("call", "g", ()), ("call", "g", ("x",)), ("call", "g", ("x", "y")), ("call", "g", ("x", "x")), ("call", "g", ["x"]), ("call", "g"),
        ("call", "g", many[:8]), ("call", "g", many), ("call", "main", ()), ("call", "let", ()), ("call", "g", ("let",)), ("call", "g", (1,)),
        ("call", "g", "x"), ("call", "g", ("x",), ()), ("call", None, ()), ["call", "g", ()], ("call", ("g",), ()), ("call", "g", (("name", "x"),)),
        ("fun", "x", ("call", "g", ("x",))), ("word", "f", (("call", "g", ("x",)), ("fun", "x", ("name", "x")))), ("word", "f", (("call", "g", ()),) * 4),
        ("let", (("x", ("word", "k", ())),), ("call", "g", ())), ("fun", "x", ("let", (("y", ("name", "x")),), ("name", "y"))),
    ]


# Families to try, changes of them, and slow ways over programs.

FAMILY_TEXTS = (
    "main[] = fun a. g[a]\ng[x] = fun y. at(x, g[x])",
    "main[] = fun a. g[a]\ng[x] = fun y. at(x, g[y])",
    "main[] = fun a. fun b. g[a, b]\ng[x, z] = pair(x, g[z, x])",
    "main[] = fun a. fun b. g[a, b]\ng[x, y] = at(x, g[x, y])",
    "main[] = f(main[])",
    "main[] = fun a. k(a, main[])",
    "main[] = g[]\ng[] = h[]\nh[] = fun a. k(a, g[], main[])\np[x] = q[x]\nq[y] = y",
    "main[] = fun x. fun x. g[x]\ng[x] = fun x. f(x, g[x], main[])",
    "main[] = fun a. fun b. fun c. g[a, b, c]\ng[x, y, z] = f(x, g[y, z, x], g[y, x, z])",
    "main[] = fun a. fun b. g[a, b]\ng[x, y] = fun z. f(x, y, g[y, x])",
    "main[] = fun a. fun b. g[a, b]\ng[x, y] = fun z. f(x, h[y, z])\nh[u, v] = pair(u, g[u, v])",
    "main[] = fun a. pair(k(a), fun b. g[b, a])\ng[x, y] = pair(x, fun z. pair(y, g[x, z]))",
    "main[] = fun a. pair(g[a], h[a])\ng[x] = fun y. k(x, y)\nh[x] = fun y. k(y, x)",
    "main[] = fun a. pair(g[a], fun b. g[b])\ng[x] = m(x)",
    "main[] = fun a. fun b. pair(fun c. f(a, c), fun c. f(b, c), fun c. f(c, a))",
    "main[] = pair(g[], h[])\ng[] = fun a. k(a, g[])\nh[] = fun b. k(b, p[])\np[] = fun c. k(c, h[])",
    "main[] = fun a. g[a]\ng[x] = f(fun y. at(x, y), h[x])\nh[x] = fun z. f(z, g[x], h[z])",
    "main[] = fun a. fun b. f(fun c. g[c, a], fun d. g[d, b], g[a, b])\ng[x, y] = at(x, fun z. at(y, g[z, x]))",
    "main[] = fun a. f(g[a], fun b. h[a, b])\ng[x] = fun y. at(x, y)\nh[x, y] = fun z. at(y, z, x)",
    "main[] = fun a. g[a]\ng[x] = pair(x, fun y. h[x, y])\nh[x, y] = pair(y, fun z. g[x])",
    "main[] = fun a. p[a]\np[x] = fun y. at(x, q[y])\nq[x] = fun z. on(x, p[z])",
    "main[] = f(fun a. p[a], fun a. f(q[a]))\np[x] = fun y. f(x, f(q[y]))\nq[x] = fun z. on(x, fun u. f(z, p[u]))",
)


def mapped_body(body, names, make):
    """The body with what is made of each use and call: make is passed the part, and the names of all variables there."""
    match body[0]:
        case "word":
            return ("word", body[1], tuple(mapped_body(inner, names, make) for inner in body[2]))
        case "fun":
            return ("fun", body[1], mapped_body(body[2], [*names, body[1]], make))
    return make(body, sorted(set(names)))


def mapped_family(definitions, make):
    return {name: (row, mapped_body(body, row, make)) for name, (row, body) in definitions.items()}


def copied_family(rng, definitions):
    """Alike definitions, each of which but main stands twice; each call goes to one of both."""
    fresh = [name for name in (letters("c", at) for at in range(300)) if name not in definitions]
    more = {name: fresh[at] for at, name in enumerate(definitions) if name != "main"}

    def called(part, names):
        if part[0] == "name" or part[1] == "main":
            return part
        return ("call", rng.choice((part[1], more[part[1]])), part[2])
    made = {**definitions, **{more[name]: definitions[name] for name in more}}
    return mapped_family(made, called)


def turned_family(rng, definitions):
    """Alike definitions with their parameters in other orders."""
    orders = {name: rng.sample(range(len(row)), len(row)) for name, (row, _) in definitions.items()}

    def called(part, names):
        if part[0] == "name":
            return part
        return ("call", part[1], tuple(part[2][at] for at in orders[part[1]]))
    made = mapped_family(definitions, called)
    return {name: (tuple(row[at] for at in orders[name]), body) for name, (row, body) in made.items()}


def padded_family(rng, definitions):
    """Alike definitions, one of which perhaps has one more parameter, which it does not need; calls hand on anything."""
    grown = rng.choice(sorted(set(definitions) - {"main"}) or ["main"])
    fits = [grown != "main"]

    def called(part, names):
        if part[0] == "name" or part[1] != grown:
            return part
        free = [name for name in names if name not in part[2]]
        fits.append(len(free) > 0)
        return ("call", grown, (*part[2], rng.choice(free))) if free else part
    row, body = definitions[grown]
    more = [name for name in (letters("u", at) for at in range(300)) if name not in row][0]
    made = mapped_family({**definitions, grown: ((*row, more), body)}, called)
    return made if all(fits) and len(row) < 8 else definitions


def changed_family(rng, definitions):
    """Definitions with one word, use, call, child or order changed, or others that are no more those of a family."""
    name = rng.choice(sorted(definitions))
    row, body = definitions[name]

    def changed(part, names):
        inner = body_inner(part)
        if inner and rng.random() < 0.6:
            at = rng.randrange(len(inner))
            rest = inner[:at] + (changed(inner[at], [*names, part[1]] if part[0] == "fun" else names),) + inner[at + 1:]
            return ("word", part[1], rest) if part[0] == "word" else ("fun", part[1], rest[0])
        match part[0]:
            case "word":
                return ("word", rng.choice(("f", part[1])), tuple(rng.sample(inner, len(inner))))
            case "fun":
                return rng.choice((("fun", rng.choice("abx"), part[2]), ("word", "f", ())))
            case "call":
                return ("call", part[1], tuple(rng.sample(sorted(set(names)), len(part[2]))))
        return ("name", rng.choice(sorted(names)))
    return {**definitions, name: (row, changed(body, row))}


def naive_fits_in(definitions):
    """Whether there is such a family, with not too many words and functions."""
    return naive_is_family(definitions) and sum(naive_body_size(body) for _, body in definitions.values()) <= 100


def some_families(seed, many):
    """Dicts of definitions: those of the texts, random ones, alike ones and changed ones."""
    rng = random.Random(seed)
    found = [read_family(text).definitions for text in FAMILY_TEXTS]
    found += [made for made in random_definitions(rng, many * 20) if naive_variety(made)][:many]
    found += [rng.choice((copied_family, turned_family, padded_family))(rng, made) for made in found]
    changed = [changed_family(rng, made) for made in found]
    return [made for made in found + changed if naive_fits_in(made)]


def naive_variety(definitions):
    """Whether some definition that is called has parameters, and much is reached."""
    called = set()
    places = naive_family_places(definitions)
    for name, path in places:
        called.add(name)
    return len(places) > 4 and any(definitions[name][0] for name in called)


def naive_family_below(definitions, name, path):
    """The pairs (place, dict from the variables there to those of a place) for the children of the place."""
    names = {one: one for one in definitions[name][0]}
    body = definitions[name][1]
    for length in range(len(path) + 1):
        part = body_at(body, path[:length])
        names |= {part[1]: part[1]} if part[0] == "fun" else {}
    found = []
    for at in range(len(body_inner(body_at(body, path)))):
        child, inner, given = naive_lead(definitions, name, path + (at,), names)
        found.append(((child, inner), given))
    return found


def naive_family_places(definitions):
    """The reached places of a family, ascending."""
    found, waiting = set(), [naive_lead(definitions, "main", (), {})[:2]]
    while waiting:
        place = waiting.pop()
        if place not in found:
            found.add(place)
            waiting += [child for child, _ in naive_family_below(definitions, *place)]
    return sorted(found)


def naive_spots(program, depth):
    """A dict from the plain addresses of a program down to a depth to triples.

    A triple is: the look, the set of the lengths of the addresses of the needed functions above, and the place.
    """
    if isinstance(program, Graph):
        needs = naive_needs(program.nodes)
        return {
            address: (naive_look(program.nodes, way), {nearest(way, one) for one in needs[way[-1]]}, way[-1])
            for address, way in naive_places(program.nodes, depth).items()
        }
    spots = {}
    waiting = [((), "main", (), {})]
    while waiting:
        address, *place = waiting.pop()
        name, path, names = naive_lead(program.definitions, *place)
        part = body_at(program[name][1], path)
        look = ("var", len(address) - names[part[1]]) if part[0] == "name" else ("fun",)
        if part[0] == "word":
            look = ("word", part[1], len(part[2]))
        spots[address] = (look, naive_below(program.definitions, name, path, names), (name, path))
        if part[0] == "fun":
            names = {**names, part[1]: len(address)}
        if len(address) < depth:
            waiting += [(address + (at,), name, path + (at,), names) for at in range(len(body_inner(part)))]
    return spots


def naive_program_difference(first, second, depth):
    """The first difference of two programs with an address of at most this length, or None."""
    spots, others = naive_spots(first, depth), naive_spots(second, depth)
    found = [at for at in spots if at in others and spots[at][0] != others[at][0]]
    if not found:
        return None
    at = min(found, key=lambda address: (len(address), address))
    return (at, spots[at][0], others[at][0])


def naive_row(spots, address):
    """The row at a place, from its spots."""
    needed = spots[address][1]
    if not needed:
        return ()
    lowest = max(needed)
    return naive_row(spots, address[:lowest]) + (address[:lowest],)


def naive_anchors(definitions):
    """The set of the pairs (anchor place, place), found by going down with all needs in the order of their functions."""
    needs = {place: naive_needs_of(definitions, *place) for place in naive_family_places(definitions)}
    found, seen = set(), set()
    waiting = [(naive_lead(definitions, "main", (), {})[:2], ())]
    while waiting:
        place, order = waiting.pop()
        if (place, order) in seen:
            continue
        seen.add((place, order))
        part = body_at(definitions[place[0]][1], place[1])
        if part[0] == "fun" and order:
            found.add((order[-1][1], place))
        for child, given in naive_family_below(definitions, *place):
            passed = order
            if part[0] == "fun":
                passed = tuple(one for one in order if one[0] != part[1]) + ((part[1], place),)
            row = []
            for variable, function in passed:
                row += [(need, function) for need in needs[child] if given[need] == variable]
            waiting.append((child, tuple(row)))
    return found


def naive_has_ring(pairs):
    """Whether these pairs (from, to) have a ring."""
    left = set(pairs)
    while left:
        less = {(one, two) for one, two in left if any(one == other for _, other in left)}
        if less == left:
            return True
        left = less
    return False


def wrong_families():
    """Pairs (value, wanted error) of values that are no families."""
    values = odd_values() + [ROLL, FAMILY_TEXTS[0], {"main": ((), ("word", "k", ()))}]
    return [(value, InvalidFamily) for value in values]


def wrong_programs():
    """Likewise of values that are neither families nor graphs."""
    return [(value, wanted) for value, wanted in wrong_families() if not isinstance(value, Graph)]


# Slow ways over stores.

def naive_store(programs):
    """The nodes and the roots of a store, from a dict from names to the nodes of graphs."""
    nodes, tops = [], {}
    for name in sorted(programs):
        first = tops[name] = len(nodes)
        for node in programs[name]:
            if node[0] == "word":
                nodes.append(("word", node[1], tuple(child + first for child in node[2])))
            else:
                nodes.append((node[0], node[1] + first))
    pairs = naive_matching_pairs(nodes, nodes)
    lead = {node: min(other for one, other in pairs if one == node) for node in range(len(nodes))}
    numbers = {}

    def walk(node):
        if lead[node] not in numbers:
            numbers[lead[node]] = len(numbers)
            for child in children_of(nodes[lead[node]]):
                walk(child)

    for name in sorted(programs):
        walk(tops[name])
    made = []
    for old in numbers:
        node = nodes[old]
        if node[0] == "word":
            made.append(("word", node[1], tuple(numbers[lead[child]] for child in node[2])))
        else:
            made.append((node[0], numbers[lead[node[1]]]))
    return tuple(made), {name: numbers[lead[tops[name]]] for name in sorted(programs)}


def long_graph(letter, many=100):
    """A least graph with so many nodes, which shares none with those of other letters."""
    return Graph.of(tuple(("word", letter if at else letter + "x", ((at + 1) % many,)) for at in range(many)))


def deep_term(many):
    """A term whose graph has so many nodes."""
    term = ("word", "k", ())
    for _ in range(many - 1):
        term = ("word", "f", (term,))
    return term
