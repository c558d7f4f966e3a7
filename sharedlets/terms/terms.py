"""Names, open terms and terms, their parts and paths."""

from sharedlets.checks import is_below
from sharedlets.errors import InvalidName, InvalidOperation, InvalidTerm
from sharedlets.terms.layout import Layout, terms_in, with_term

MAX_PARTS = 500
MAX_LEVELS = 120

MAX_LETTERS = 8
MAX_TERMS = 3
MAX_DEFINITIONS = 100
LETTERS = "abcdefghijklmnopqrstuvwxyz"
SIGN_WORDS = ("fun", "let", "in")


def is_name(value):
    """Whether the value is a name."""
    if not isinstance(value, str) or not 1 <= len(value) <= MAX_LETTERS:
        return False
    return value.isascii() and value.isalpha() and value.islower() and value not in SIGN_WORDS


def _are_definitions(value):
    """Whether the value is a tuple of pairs with different names, whatever stands for their terms."""
    if not isinstance(value, tuple) or not 1 <= len(value) <= MAX_DEFINITIONS:
        return False
    for pair in value:
        if not isinstance(pair, tuple) or len(pair) != 2 or not is_name(pair[0]):
            return False
    return len(set([name for name, _ in value])) == len(value)


def _is_built(value):
    """Whether the value is built like an open term, whatever stands for the terms directly in it."""
    if not isinstance(value, tuple) or len(value) not in (2, 3):
        return False
    if len(value) == 2:
        return value[0] == "name" and is_name(value[1])
    if value[0] == "word":
        return is_name(value[1]) and isinstance(value[2], tuple) and len(value[2]) <= MAX_TERMS
    if value[0] == "fun":
        return is_name(value[1])
    return value[0] == "let" and _are_definitions(value[1])


def is_open_term(value):
    """Whether the value is an open term."""
    many = 0
    level = [value]
    for _ in range(MAX_LEVELS):
        many += len(level)
        # The limit is checked on the way: parts that are shared can be far too many to count.
        if many > MAX_PARTS or not all([_is_built(part) for part in level]):
            return False
        level = [term for part in level for term in terms_in(part)]
        if len(level) == 0:
            return True
    return False


def is_term(value):
    """Whether the value is a term."""
    # No name is free and each definition has a head exactly if each part has a head.
    return is_open_term(value) and None not in Layout(value).find_heads()


def check_part(part):
    """Raise InvalidTerm if the value is no open term."""
    if not is_open_term(part):
        raise InvalidTerm("this is no open term")


def check_term(term):
    """Raise InvalidTerm if the value is no term."""
    if not is_term(term):
        raise InvalidTerm("this is no term")


def layout_of_term(term):
    """The layout of a term, and the list of its heads: InvalidTerm if the value is no term."""
    check_part(term)
    layout = Layout(term)
    heads = layout.find_heads()
    if None in heads:
        raise InvalidTerm("this is no term")
    return layout, heads


def check_name(name):
    """Raise InvalidName if the value is no name."""
    if not is_name(name):
        raise InvalidName("this is no name")


def number_at(layout, path):
    """The number of the part at a path: InvalidOperation if the value is no path."""
    number = layout.number_at(path)
    if number is None:
        raise InvalidOperation("this is no path of the term")
    return number


def _way_to(part, path):
    """The list of the parts around the part at a path, from the whole on, and this part itself.

    InvalidOperation if the value is no path.
    """
    if not isinstance(path, tuple):
        raise InvalidOperation("this is no path of the term")
    way = [part]
    for step in path:
        terms = terms_in(way[-1])
        if not is_below(step, len(terms)):
            raise InvalidOperation("this is no path of the term")
        way.append(terms[step])
    return way


def _binds(part, name):
    """Whether this is a function with this variable, or a block with a definition of this name."""
    if part[0] == "let":
        return name in [one for one, _ in part[1]]
    return part[0] == "fun" and part[1] == name


def use(name):
    """The use of a name."""
    check_name(name)
    return ("name", name)


def word(name, *terms):
    """The word with this name and these terms."""
    return word_of(name, terms)


def word_of(name, terms):
    """The word with this name and a tuple of terms."""
    check_name(name)
    made = ("word", name, terms)
    check_part(made)
    return made


def fun(variable, term):
    """The function with this variable and this body."""
    check_name(variable)
    made = ("fun", variable, term)
    check_part(made)
    return made


def let(term, **definitions):
    """The block with this term and these definitions, ascending by names."""
    return let_of(term, definitions)


def let_of(term, definitions):
    """The block with this term and a dict of definitions, ascending by names."""
    check_part(term)
    if not isinstance(definitions, dict):
        raise InvalidName("the definitions are not a dict")
    for name in definitions:
        check_name(name)
    pairs = [(name, definitions[name]) for name in sorted(definitions)]
    made = ("let", tuple(pairs), term)
    check_part(made)
    return made


def free_names(part):
    """The ascending tuple of the names that are free in an open term."""
    check_part(part)
    layout = Layout(part)
    free = [one[1] for one, owner in zip(layout.parts, layout.owners) if one[0] == "name" and owner is None]
    return tuple(sorted(set(free)))


def size_of(part):
    """The number of parts of an open term."""
    check_part(part)
    return len(Layout(part).parts)


def levels_of(part):
    """How many parts of an open term are in one another at most."""
    check_part(part)
    return Layout(part).levels()


def subterms(part):
    """Yield the pairs (path, part) of an open term, by ascending paths."""
    check_part(part)
    layout = Layout(part)
    for number, one in enumerate(layout.parts):
        yield layout.path_of(number), one


def part_at(part, path):
    """The part at a path."""
    check_part(part)
    return _way_to(part, path)[-1]


def put_at(part, path, other):
    """The open term with another one at a path."""
    check_part(part)
    way = _way_to(part, path)
    made = other
    for at in range(len(path) - 1, -1, -1):
        made = with_term(way[at], path[at], made)
    check_part(made)
    return made


def binder_of(part, path):
    """The path of the function or block to which the use at a path belongs, or None."""
    check_part(part)
    way = _way_to(part, path)
    if way[-1][0] != "name":
        raise InvalidOperation("no use of a name stands there")
    for length in range(len(path) - 1, -1, -1):
        if _binds(way[length], way[-1][1]):
            return path[:length]
    return None


def head_path(term, path):
    """The path of the head of the part at a path."""
    layout, heads = layout_of_term(term)
    return layout.path_of(heads[number_at(layout, path)])
