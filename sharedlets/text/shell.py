"""A shell over a store."""

from sharedlets.alike.differences import first_difference
from sharedlets.errors import InvalidCommand, InvalidOperation
from sharedlets.families.least import least_family
from sharedlets.families.texts import write_family
from sharedlets.graphs.made import graph_of, term_of
from sharedlets.looks.addresses import look
from sharedlets.looks.counts import level_size
from sharedlets.store.store import Store
from sharedlets.terms.texts import read, write
from sharedlets.text.formats import format_difference, look_text, parse_address

MAX_FIGURES = 5

# What comes behind the first word of each command; a term is all that is left of the line.
FORMS = {
    "put": ("name", "term"), "drop": ("name",), "rename": ("name", "name"), "undo": ("number",), "redo": ("number",),
    "names": (), "show": ("name",), "size": ("name",), "family": ("name",), "alike": ("name", "name"),
    "shared": ("name", "name"), "look": ("name", "address"), "level": ("name", "number"), "where": ("term",),
}
LOGGED = ("put", "drop", "rename", "undo", "redo")


def _is_number(word):
    """Whether the word is an integer from 0 to 99999 without leading zeros."""
    if not word.isascii() or not word.isdigit() or len(word) > MAX_FIGURES:
        return False
    return word == "0" or not word.startswith("0")


def _split(line):
    """The first word of a command, and the list of the texts behind it: InvalidCommand if the line is none."""
    if not isinstance(line, str) or "\n" in line:
        raise InvalidCommand("this is not one line")
    words = line.split(" ")
    if "" in words or words[0] not in FORMS:
        raise InvalidCommand("these are not the words of a command")
    form = FORMS[words[0]]
    texts = words[1:]
    if "term" in form and len(texts) >= len(form):
        texts[len(form) - 1:] = [" ".join(texts[len(form) - 1:])]
    if len(texts) != len(form):
        raise InvalidCommand("there are too few or too many words")
    if not all([_is_number(text) for kind, text in zip(form, texts) if kind == "number"]):
        raise InvalidCommand("this is no number from 0 to 99999")
    return words[0], texts


def _value_of(kind, text):
    """What a text stands for."""
    if kind == "term":
        return read(text)
    if kind == "address":
        return parse_address(text)
    return int(text) if kind == "number" else text


def _news_of(store):
    """The text of the news of a store."""
    told = [f"{kind} {name}" for kind, name in store.news()]
    return ", ".join(told) if len(told) > 0 else "ok"


def _names_text(names):
    return " ".join(names) if len(names) > 0 else "none"


def _put(store, name, term):
    store.do(("put", name, term))
    return _news_of(store)


def _drop(store, name):
    store.do(("drop", name))
    return _news_of(store)


def _rename(store, name, other):
    store.do(("rename", name, other))
    return _news_of(store)


def _undo(store, many):
    store.undo(many=many)
    return _news_of(store)


def _redo(store, many):
    store.redo(many=many)
    return _news_of(store)


def _names(store):
    return _names_text(store.names)


def _show(store, name):
    return write(term_of(store[name]))


def _size(store, name):
    return str(len(store[name]))


def _family(store, name):
    return write_family(least_family(store[name])).replace("\n", " & ")


def _alike(store, name, other):
    found = first_difference(store[name], store[other])
    return "yes" if found is None else format_difference(found)


def _shared(store, name, other):
    return str(len(store.shared(name, other)))


def _look(store, name, address):
    return look_text(look(store[name], address))


def _level(store, name, depth):
    return str(level_size(store[name], depth))


def _where(store, term):
    node = store.where(graph_of(term))
    return "none" if node is None else _names_text(store.users(node))


ANSWERS = {
    "put": _put, "drop": _drop, "rename": _rename, "undo": _undo, "redo": _redo, "names": _names, "show": _show,
    "size": _size, "family": _family, "alike": _alike, "shared": _shared, "look": _look, "level": _level,
    "where": _where,
}


class Shell:
    """Does commands on a store."""

    def __init__(self, store=None):
        if store is not None and not isinstance(store, Store):
            raise InvalidOperation("this is no store")
        # A store without programs is false, too.
        self._store = Store() if store is None else store
        self._log = []

    @property
    def log(self):
        """The tuple of the lines of the commands that changed the store or could have."""
        return tuple(self._log)

    @property
    def names(self):
        """The ascending tuple of the names of the programs."""
        return self._store.names

    def run(self, line):
        """Do a command; return its answer."""
        word, texts = _split(line)
        arguments = [_value_of(kind, text) for kind, text in zip(FORMS[word], texts)]
        action = ANSWERS[word]
        answer = action(self._store, *arguments)
        if word in LOGGED:
            self._log.append(line)
        return answer

    def run_all(self, lines):
        """Yield the answers to the lines of a tuple, each of which is done when it is asked for."""
        if not isinstance(lines, tuple):
            raise InvalidOperation("the lines are not a tuple")
        for line in lines:
            yield self.run(line)

    def stored(self):
        """An independent store in the same state."""
        return self._store.twin()

    def __call__(self, line):
        return self.run(line)

    def __len__(self):
        return len(self._log)

    def __str__(self):
        return f"shell of {len(self._store)} programs, {len(self._store.nodes)} nodes"
