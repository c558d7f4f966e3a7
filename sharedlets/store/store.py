"""A store of programs that share their nodes."""

from sharedlets.checks import check_below, check_many
from sharedlets.errors import InvalidEdit, NothingToUndo, TooMany, UnknownName
from sharedlets.graphs.graphs import Graph, check_graph
from sharedlets.graphs.made import graph_of
from sharedlets.least.least import least
from sharedlets.store.pools import Pool, pool_of
from sharedlets.terms.terms import is_name, is_term

MAX_PROGRAMS = 20
MAX_STORED = 300
MAX_KEPT = 1000


def _is_edit(value, there):
    """Whether the value is an edit that can be made where these names are there."""
    if not isinstance(value, tuple) or len(value) not in (2, 3) or not is_name(value[1]):
        return False
    if value[0] == "put":
        return len(value) == 3 and (isinstance(value[2], Graph) or is_term(value[2]))
    if value[1] not in there:
        return False
    if value[0] == "drop":
        return len(value) == 2
    return value[0] == "rename" and len(value) == 3 and is_name(value[2]) and value[2] not in there


def _edited(programs, edits):
    """The dict of the programs behind all edits; for what is put the numbers of the edits stand there."""
    if not isinstance(edits, tuple):
        raise InvalidEdit("the edits are not a tuple")
    made = dict(programs)
    for number, edit in enumerate(edits):
        if not _is_edit(edit, made):
            raise InvalidEdit("this is no edit, or its names are not as they must be")
        if edit[0] == "put":
            made[edit[1]] = number
        elif edit[0] == "drop":
            del made[edit[1]]
        else:
            made[edit[2]] = made.pop(edit[1])
    return made


def _graph_of_program(program):
    """The graph of a term or of a graph."""
    return program if isinstance(program, Graph) else graph_of(program)


def _pool_behind(before, edits):
    """The pool that comes out of another one by edits."""
    made = _edited(before.programs, edits)
    # What is put and goes again must have a graph, too.
    graphs = {number: _graph_of_program(edit[2]) for number, edit in enumerate(edits) if edit[0] == "put"}
    if len(made) > MAX_PROGRAMS:
        raise TooMany(MAX_PROGRAMS)
    programs = {name: least(graphs[made[name]]) if isinstance(made[name], int) else made[name] for name in made}
    pool = pool_of(programs, before)
    if len(pool.shared_nodes) > MAX_STORED:
        raise TooMany(MAX_STORED)
    return pool


def _changes(before, after):
    """The ascending tuple of the news where one pool comes in the place of another one."""
    gone = [("gone", name) for name in before.programs if name not in after.programs]
    there = [name for name in after.programs if name in before.programs]
    other = [("other", name) for name in there if before.programs[name] != after.programs[name]]
    return tuple(sorted(gone + other + [("new", name) for name in after.programs if name not in before.programs]))


class Moment:
    """All that a store is at a time; it never changes.

    The pools that can come back by undoing, the last one of them first, stand in done at the end, and those that can
    come back by doing again in undone.
    """

    def __init__(self, pool, done, undone, most, told):
        self.pool = pool
        self.done = done[max(0, len(done) - most):]
        self.undone = undone
        self.most = most
        self.told = told


class Beginning:
    """What a store is where a block of a trial begins, and the beginning of the block around with the same trial."""

    def __init__(self, moment, around):
        self.moment = moment
        self.around = around


class Trial:
    """A block at whose end a store is as at its beginning; blocks with one trial can be nested, too."""

    def __init__(self, store):
        self.store = store
        self.begun_at = None

    def __enter__(self):
        self.begun_at = Beginning(self.store._moment, self.begun_at)
        return self.store

    def __exit__(self, kind, value, trace):
        self.store._moment = self.begun_at.moment
        self.begun_at = self.begun_at.around


class Store:
    """Programs under names that share their nodes."""

    def __init__(self, *, kept=100):
        check_below(kept, MAX_KEPT + 1)
        self._moment = Moment(Pool({}, (), {}), (), (), kept, ())

    @property
    def names(self):
        """The ascending tuple of the names of the programs."""
        return tuple(self._moment.pool.programs)

    @property
    def nodes(self):
        """The tuple of the nodes of all programs."""
        return self._moment.pool.shared_nodes

    @property
    def roots(self):
        """A dict from the names to the nodes that are the roots."""
        tops = self._moment.pool.tops
        return {name: tops[name] for name in tops}

    @property
    def steps(self):
        """How many steps can be undone."""
        return len(self._moment.done)

    @property
    def kept(self):
        """How many steps can be undone at most."""
        return self._moment.most

    @kept.setter
    def kept(self, value):
        """Set how many steps can be undone at most."""
        self.keep(value)

    def keep(self, kept):
        """Set how many steps can be undone at most."""
        check_below(kept, MAX_KEPT + 1)
        now = self._moment
        self._moment = Moment(now.pool, now.done, now.undone, kept, now.told)

    def do(self, *edits):
        """Make edits as one step; return how many steps can be undone."""
        return self.do_all(edits)

    def do_all(self, edits):
        """Make the edits of a tuple as one step; return how many steps can be undone."""
        now = self._moment
        pool = _pool_behind(now.pool, edits)
        if len(edits) == 0:
            self._moment = Moment(now.pool, now.done, now.undone, now.most, ())
        else:
            self._moment = Moment(pool, now.done + (now.pool,), (), now.most, _changes(now.pool, pool))
        return self.steps

    def undo(self, *, many=1):
        """Undo the last steps; return how many can be undone then."""
        now = self._moment
        check_many(many)
        if many > len(now.done):
            raise NothingToUndo(many)
        line = now.done + (now.pool,)
        at = len(now.done) - many
        undone = now.undone + line[at + 1:][::-1]
        self._moment = Moment(line[at], line[:at], undone, now.most, _changes(now.pool, line[at]))
        return self.steps

    def redo(self, *, many=1):
        """Do the last undone steps again; return how many can be undone then."""
        now = self._moment
        check_many(many)
        if many > len(now.undone):
            raise NothingToUndo(many)
        at = len(now.undone) - many
        line = now.done + (now.pool,) + now.undone[at:][::-1]
        self._moment = Moment(line[-1], line[:-1], now.undone[:at], now.most, _changes(now.pool, line[-1]))
        return self.steps

    def news(self):
        """Yield the news of the last step, undoing or redoing."""
        for one in list(self._moment.told):
            yield one

    def alike(self, name):
        """The ascending tuple of the names of all programs that are alike this one, itself included."""
        tops = self._moment.pool.tops
        top = self._top_of(name)
        return tuple([other for other in tops if tops[other] == top])

    def shared(self, name, other):
        """The ascending tuple of the nodes that are reached from both roots."""
        top, partner = self._top_of(name), self._top_of(other)
        others = {node: True for node in self._moment.pool.below(partner)}
        return tuple(sorted([node for node in self._moment.pool.below(top) if node in others]))

    def users(self, node):
        """The ascending tuple of the names from whose roots a node is reached."""
        pool = self._moment.pool
        check_below(node, len(pool.shared_nodes))
        return tuple([name for name in pool.tops if node in pool.below(pool.tops[name])])

    def where(self, graph):
        """The node below which the unfolding is that of a graph, or None."""
        check_graph(graph)
        return self._moment.pool.node_like(graph)

    def trial(self):
        """A block at whose end the store is as at its beginning."""
        return Trial(self)

    def attempt(self, action):
        """What the action returns for this store; behind it the store is as ahead of it."""
        with self.trial() as same:
            return action(same)

    def twin(self):
        """An independent store in the same state."""
        made = Store()
        made._moment = self._moment
        return made

    def _top_of(self, name):
        """The root of a program."""
        tops = self._moment.pool.tops
        if not is_name(name) or name not in tops:
            raise UnknownName(name)
        return tops[name]

    def __getitem__(self, name):
        self._top_of(name)
        return self._moment.pool.programs[name]

    def __iter__(self):
        raise TypeError("a store cannot be iterated over")

    def __contains__(self, value):
        return is_name(value) and value in self._moment.pool.programs

    def __len__(self):
        return len(self._moment.pool.programs)

    def __eq__(self, other):
        return isinstance(other, Store) and self._moment.pool.programs == other._moment.pool.programs

    def __str__(self):
        return f"store of {len(self._moment.pool.programs)} programs, {len(self._moment.pool.shared_nodes)} nodes"
