"""The texts of graphs, addresses, differences, relations, papers and chains, and drawn unfoldings."""

from sharedlets.chains.chains import is_chain_form
from sharedlets.checks import check_many, is_below
from sharedlets.errors import InvalidAddress, InvalidGraph, InvalidOperation, ParseError, TooMany
from sharedlets.families.outlines import Outline
from sharedlets.graphs.graphs import MAX_NODES, Graph, check_graph
from sharedlets.looks.addresses import is_address, is_plain_address
from sharedlets.terms.terms import MAX_TERMS, is_name

MAX_LINES = 1000

MAX_DIGITS = 40
# Integers from here on have more digits.
NUMBERS = 10 ** 40


def _is_look(value):
    """Whether the value has the form of a look."""
    if not isinstance(value, tuple) or len(value) == 0:
        return False
    if value[0] == "word":
        return len(value) == 3 and is_name(value[1]) and is_below(value[2], MAX_TERMS + 1)
    if value[0] == "var":
        return len(value) == 2 and is_below(value[1], NUMBERS) and value[1] > 0
    return value[0] == "fun" and len(value) == 1


def _is_difference(value):
    """Whether the value is a triple of a plain address and two looks."""
    if not isinstance(value, tuple) or len(value) != 3 or not is_plain_address(value[0]):
        return False
    return _is_look(value[1]) and _is_look(value[2])


def _is_pair(value):
    """Whether the value is a pair of integers from 0 to 99."""
    if not isinstance(value, tuple) or len(value) != 2:
        return False
    return is_below(value[0], MAX_NODES) and is_below(value[1], MAX_NODES)


def _is_relation(value):
    """Whether the value is an ascending tuple of pairs of integers from 0 to 99."""
    if not isinstance(value, tuple) or not all([_is_pair(pair) for pair in value]):
        return False
    return all([one < two for one, two in zip(value, value[1:])])


def _is_paper(value):
    """Whether the value has the form of an alike paper."""
    if not isinstance(value, tuple) or len(value) != 2:
        return False
    if value[0] == "alike":
        return _is_relation(value[1])
    return value[0] == "unlike" and is_address(value[1])


def _check_value(is_one):
    """Raise InvalidOperation if a value has not the form that is asked for."""
    if not is_one:
        raise InvalidOperation("the value has not the form")


def _node_text(node):
    """The line of a node."""
    if node[0] == "word":
        return " ".join(["word", node[1]] + [str(child) for child in node[2]])
    return f"{node[0]} {node[1]}"


def _steps_text(steps):
    """The text of numbers of children."""
    return ".".join([str(step) for step in steps])


def _address_text(address):
    """The text of an address."""
    texts = []
    for element in address:
        texts.append(f"({_steps_text(element[0])})*{element[1]}" if isinstance(element, tuple) else str(element))
    return ".".join(texts) if len(texts) > 0 else "-"


def look_text(look):
    """The text of a look."""
    if look[0] == "word":
        return f"{look[1]}/{look[2]}"
    return f"var {look[1]}" if look[0] == "var" else "fun"


def format_graph(graph):
    """The text of a graph."""
    check_graph(graph)
    return "\n".join([_node_text(node) for node in graph.nodes])


def format_address(address):
    """The text of an address."""
    if not is_address(address):
        raise InvalidAddress("this has not the form of an address")
    return _address_text(address)


def format_difference(value):
    """The text of a plain address and two looks."""
    _check_value(_is_difference(value))
    return f"{_address_text(value[0])}: {look_text(value[1])}, {look_text(value[2])}"


def format_relation(value):
    """The text of an ascending tuple of pairs of integers from 0 to 99."""
    _check_value(_is_relation(value))
    return " ".join([f"{one}-{two}" for one, two in value]) if len(value) > 0 else "-"


def format_paper(value):
    """The text of an alike paper."""
    _check_value(_is_paper(value))
    return f"{value[0]} " + (format_relation(value[1]) if value[0] == "alike" else _address_text(value[1]))


def format_chain(value):
    """The text of a chain."""
    _check_value(is_chain_form(value))
    pieces = ", ".join([_address_text(piece) for piece in value[2]])
    return f"{_address_text(value[1])}: {pieces}"


def _check_text(text):
    if not isinstance(text, str):
        raise ParseError("this is no string")


def _check_read(is_right):
    """Raise ParseError if what was read is no value of the wanted form, or has another text."""
    if not is_right:
        raise ParseError("this is not the text of such a value")


def _read_number(text):
    """The integer with these digits; leading zeros are found when the text of the whole is compared."""
    if not text.isascii() or not text.isdigit() or len(text) > MAX_DIGITS:
        raise ParseError("this is no number")
    return int(text)


def _read_node(line):
    """What has this line as a node, whatever its numbers are."""
    words = line.split(" ")
    if words[0] == "word" and len(words) > 1:
        return ("word", words[1], tuple([_read_number(word) for word in words[2:]]))
    if len(words) != 2:
        raise ParseError("this is not the line of a node")
    return (words[0], _read_number(words[1]))


def _read_address(text):
    """What has this text as an address, whatever its numbers are."""
    if text == "-":
        return ()
    made = []
    piece = None
    for word in text.split("."):
        if piece is None and word.startswith("("):
            piece = []
        begun = word[1:] if piece == [] else word
        head, sign, tail = begun.partition(")*")
        step = _read_number(head)
        if piece is None:
            made.append(step)
        else:
            piece.append(step)
        if sign != "" and piece is not None:
            made.append((tuple(piece), _read_number(tail)))
            piece = None
    return tuple(made)


def _read_look(text):
    """What has this text as a look, whatever its name and its number are."""
    if text == "fun":
        return ("fun",)
    if text.startswith("var "):
        return ("var", _read_number(text[4:]))
    name, _, many = text.partition("/")
    return ("word", name, _read_number(many))


def _read_relation(text):
    """What has this text as a relation, whatever its numbers are."""
    if text == "-":
        return ()
    pairs = []
    for word in text.split(" "):
        one, _, two = word.partition("-")
        pairs.append((_read_number(one), _read_number(two)))
    return tuple(pairs)


def parse_graph(text):
    """The graph with this text."""
    _check_text(text)
    nodes = tuple([_read_node(line) for line in text.split("\n")])
    try:
        graph = Graph.of(nodes)
    except (InvalidGraph, TooMany):
        raise ParseError("these are not the nodes of a graph") from None
    # Nodes that are left out, or numbered in another way, do not come back.
    _check_read(format_graph(graph) == text)
    return graph


def parse_address(text):
    """The address with this text."""
    _check_text(text)
    address = _read_address(text)
    _check_read(is_address(address) and _address_text(address) == text)
    return address


def parse_difference(text):
    """The plain address and two looks with this text."""
    _check_text(text)
    head, _, tail = text.partition(": ")
    one, _, two = tail.partition(", ")
    value = (_read_address(head), _read_look(one), _read_look(two))
    _check_read(_is_difference(value) and format_difference(value) == text)
    return value


def parse_relation(text):
    """The ascending tuple of pairs of integers from 0 to 99 with this text."""
    _check_text(text)
    value = _read_relation(text)
    _check_read(_is_relation(value) and format_relation(value) == text)
    return value


def parse_paper(text):
    """The alike paper with this text."""
    _check_text(text)
    kind, _, tail = text.partition(" ")
    value = (kind, _read_relation(tail) if kind == "alike" else _read_address(tail))
    _check_read(_is_paper(value) and format_paper(value) == text)
    return value


def parse_chain(text):
    """The chain with this text."""
    _check_text(text)
    head, _, tail = text.partition(": ")
    value = ("chain", _read_address(head), tuple([_read_address(piece) for piece in tail.split(", ")]))
    _check_read(is_chain_form(value) and format_chain(value) == text)
    return value


def _lines_at(outline, number, copies, length, depth):
    """The lines for a place itself: its own one, and that for what is left out below it."""
    lines = ["  " * length + look_text(outline.look_of(number, copies, length))]
    if length == depth and len(outline.rows[number]) > 0:
        lines.append("  " * (length + 1) + "...")
    return lines


def drawn(graph, depth):
    """The text of the unfolding of a graph down to a depth."""
    check_graph(graph)
    check_many(depth)
    outline = Outline(graph)
    lines = []
    waiting = [(outline.first, (), 0)]
    while len(waiting) > 0:
        number, copies, length = waiting.pop()
        lines.extend(_lines_at(outline, number, copies, length, depth))
        if len(lines) > MAX_LINES:
            raise TooMany(MAX_LINES)
        if length < depth:
            row = outline.rows[number]
            for step in range(len(row) - 1, -1, -1):
                waiting.append((row[step], outline.handed(number, step, copies, length), length + 1))
    return "\n".join(lines)
