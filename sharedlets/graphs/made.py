"""The graphs of terms, and the terms that are the written forms of graphs."""

from sharedlets.errors import TooMany
from sharedlets.graphs.graphs import MAX_NODES, Graph, check_graph
from sharedlets.graphs.nodes import children_of, first_walk
from sharedlets.terms.terms import LETTERS, layout_of_term, number_at


class Unrolling:
    """What each part of a term stands for in the graph of the term.

    A word or a function stands for itself, by its number. All uses of a variable stand for one thing, whose
    number is that of the function, behind the numbers of all parts. Other parts stand for what their heads do.
    """

    def __init__(self, term):
        self.layout, heads = layout_of_term(term)
        self.many = len(heads)
        # The head of a use of a variable is this use itself or another one, which belongs to the same function.
        owners = self.layout.owners
        self.meanings = [head if owners[head] is None else self.many + owners[head][0] for head in heads]
        # Nothing stands for a block, and a use of a variable has no children.
        self.rows = [[self.meanings[one] for one in inner] for inner in self.layout.inner] + [[] for _ in heads]
        self.order = first_walk(self.rows, self.meanings[0])
        self.numbers = {meaning: node for node, meaning in enumerate(self.order)}

    def node_for(self, meaning):
        """The node in the graph of something that is met on the first walk."""
        if meaning >= self.many:
            return ("var", self.numbers[meaning - self.many])
        children = [self.numbers[child] for child in self.rows[meaning]]
        part = self.layout.parts[meaning]
        if part[0] == "fun":
            return ("fun", children[0])
        return ("word", part[1], tuple(children))

    def made_graph(self):
        """The graph of the term."""
        return Graph.of(tuple([self.node_for(meaning) for meaning in self.order]))


def graph_of(term):
    """The graph of a term."""
    return Unrolling(term).made_graph()


def node_of(term, path):
    """The node in the graph of the term for the head of the part at a path, or None."""
    unrolling = Unrolling(term)
    number = number_at(unrolling.layout, path)
    if len(unrolling.order) > MAX_NODES:
        raise TooMany(MAX_NODES)
    return unrolling.numbers.get(unrolling.meanings[number])


def label(letter, number):
    """The letter with the number behind it, counted a, b, .., z, aa, ab, .."""
    text = ""
    left = number + 1
    while left > 0:
        left, digit = divmod(left - 1, len(LETTERS))
        text = LETTERS[digit] + text
    return letter + text


class WrittenForm:
    """The written form of a graph while it is made."""

    def __init__(self, graph):
        self.graph = graph
        self.defined = {}
        # The definitions of the block in the body of each function; the one around the whole is under None.
        self.blocks = {}
        for node in range(len(graph)):
            if self.is_definition(node):
                self.defined[node] = True
                scope = graph.scope(node)
                place = scope[-1] if len(scope) > 0 else None
                self.blocks.setdefault(place, []).append(node)
        self.terms = {}

    def is_definition(self, node):
        """Whether the node is a word or a function that is used more than once."""
        uses = len(self.graph.parents(node)) + (1 if node == 0 else 0)
        return uses > 1 and self.graph[node][0] != "var"

    def use_of(self, node):
        """What is written where a node is used."""
        if self.graph[node][0] == "var":
            return ("name", label("v", self.graph[node][1]))
        if node in self.defined:
            return ("name", label("d", node))
        return self.terms[node]

    def in_block(self, place, term):
        """The term in the block that stands at this place, if there is one."""
        if place not in self.blocks:
            return term
        definitions = [(label("d", node), self.terms[node]) for node in self.blocks[place]]
        return ("let", tuple(definitions), term)

    def term_for(self, node):
        """The term of a word or a function, when those inside of it are there."""
        terms = [self.use_of(child) for child in children_of(self.graph[node])]
        if self.graph[node][0] == "fun":
            return ("fun", label("v", node), self.in_block(node, terms[0]))
        return ("word", self.graph[node][1], tuple(terms))

    def whole(self):
        """The written form."""
        # What is written in the term of a node is first reached through this node, so it has a greater number.
        for node in reversed(range(len(self.graph))):
            if self.graph[node][0] != "var":
                self.terms[node] = self.term_for(node)
        return self.in_block(None, self.use_of(0))


def term_of(graph):
    """The written form of a graph."""
    check_graph(graph)
    return WrittenForm(graph).whole()
