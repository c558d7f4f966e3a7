"""Steps from a term to another one with the same unfolding."""

from sharedlets.change.drafts import Draft
from sharedlets.checks import check_below
from sharedlets.errors import InvalidOperation, UnknownName
from sharedlets.terms.layout import Layout
from sharedlets.terms.terms import check_name, check_part, check_term, is_name

KINDS = ("name", "word", "fun", "let")


def unfolded(term, path):
    """The term with the open term of a definition in the place of a use of it."""
    check_term(term)
    draft = Draft(term)
    number = draft.part_at(path, ("name",))
    owner = draft.owners[number]
    if draft.kinds[owner] != "def":
        raise InvalidOperation("no use of a definition stands there")
    draft.exchange(number, draft.copy_of(draft.inner[owner][0]))
    return draft.result()


def _nearest_definition(draft, number, name):
    """The nearest definition with this name around a part, which must be there."""
    at = draft.outer_of(number)
    while at is not None:
        definitions = draft.definitions_of(at) if draft.kinds[at] == "let" else {}
        if is_name(name) and name in definitions:
            return definitions[name]
        at = draft.outer_of(at)
    raise InvalidOperation("no definition around has this name")


def _are_equal(draft, item, other):
    """Whether two parts are equal, and uses at the same places in them belong to the same."""
    if draft.term_of_item(item) != draft.term_of_item(other):
        return False
    partners = dict(zip(draft.below(item), draft.below(other)))
    pairs = [(draft.owners[one], draft.owners[partners[one]]) for one in partners]
    # What belongs to something within the one part belongs to what stands for it in the other one.
    return all([partners.get(one, one) == two for one, two in pairs])


def folded(term, path, name):
    """The term with a use of a definition in the place of a part that is equal to its open term."""
    check_term(term)
    draft = Draft(term)
    number = draft.part_at(path, KINDS)
    definition = _nearest_definition(draft, number, name)
    if not _are_equal(draft, number, draft.inner[definition][0]):
        raise InvalidOperation("the part is not the open term of the definition")
    used = draft.add_item("name", name, [])
    draft.owners[used] = definition
    draft.exchange(number, used)
    return draft.result()


def renamed_at(term, path, old, new):
    """The term with another name for the variable of a function, or for a definition of a block."""
    check_term(term)
    draft = Draft(term)
    names = draft.names_in(draft.part_at(path, ("fun", "let")))
    if not is_name(old) or old not in names:
        raise UnknownName(old)
    check_name(new)
    draft.labels[names[old]] = new
    draft.rename_uses(names[old], new)
    return draft.result()


def moved_out(term, path):
    """The term with a block taken out of the part directly around it."""
    check_term(term)
    draft = Draft(term)
    block = draft.part_at(path, ("let",))
    outer = draft.outer_of(block)
    if outer is None:
        raise InvalidOperation("nothing is around the block")
    draft.exchange(block, draft.inner[block].pop())
    if draft.kinds[outer] == "def":
        definition = outer
        outer = draft.outer_of(definition)
        at = draft.inner[outer].index(definition)
        draft.inner[outer][at:at] = draft.inner[block]
    elif draft.kinds[outer] == "let":
        draft.inner[outer][-1:-1] = draft.inner[block]
    else:
        draft.exchange(outer, block)
        draft.inner[block].append(outer)
    return draft.result()


def moved_in(term, path, index):
    """The term with a block taken into its term, around one child of it."""
    check_term(term)
    draft = Draft(term)
    block = draft.part_at(path, ("let",))
    inner = draft.inner[block][-1]
    if draft.kinds[inner] not in ("word", "fun"):
        raise InvalidOperation("the term of the block is neither a word nor a function")
    check_below(index, len(draft.inner[inner]))
    draft.exchange(block, inner)
    draft.inner[block][-1] = draft.inner[inner][index]
    draft.inner[inner][index] = block
    return draft.result()


def with_definition(term, path, name, part):
    """The term with one more definition, behind those of a block."""
    check_term(term)
    draft = Draft(term)
    block = draft.part_at(path, ("let",))
    check_name(name)
    check_part(part)
    definition = draft.add_item("def", name, [draft.add_layout(Layout(part))])
    draft.inner[block].insert(len(draft.inner[block]) - 1, definition)
    return draft.result()


def _used_definitions(draft):
    """For each definition to which uses lead from the term of the whole True; a dict."""
    used = {}
    waiting = [draft.root]
    while waiting:
        item = waiting.pop()
        owner = draft.owners[item]
        if owner is not None and draft.kinds[owner] == "def" and owner not in used:
            used[owner] = True
            waiting.append(owner)
        inner = draft.inner[item]
        waiting.extend(inner[-1:] if draft.kinds[item] == "let" else inner)
    return used


def without_unused(term):
    """The term without the definitions to which no uses lead."""
    check_term(term)
    draft = Draft(term)
    used = _used_definitions(draft)
    for block, kind in enumerate(list(draft.kinds)):
        if kind == "let":
            inner = draft.inner[block]
            draft.inner[block] = [one for one in inner[:-1] if one in used] + [inner[-1]]
    return draft.result()


def _are_groups(value, names):
    """Whether the value is a tuple of tuples of two or more of these names, all different."""
    if not isinstance(value, tuple):
        return False
    told = {}
    for group in value:
        if not isinstance(group, tuple) or len(group) < 2:
            return False
        for name in group:
            if not is_name(name) or name not in names or name in told:
                return False
            told[name] = True
    return True


def joined_names(term, path, groups):
    """The term in which the definitions of each group, which become equal, have become the first one."""
    check_term(term)
    draft = Draft(term)
    block = draft.part_at(path, ("let",))
    names = draft.definitions_of(block)
    if not _are_groups(groups, names):
        raise InvalidOperation("these are no groups of definitions of the block")
    firsts = {names[name]: names[group[0]] for group in groups for name in group[1:]}
    for number, owner in enumerate(list(draft.owners)):
        if owner in firsts:
            draft.owners[number] = firsts[owner]
            draft.labels[number] = draft.labels[firsts[owner]]
    draft.check_clean()
    for other in firsts:
        if draft.term_of_item(other) != draft.term_of_item(firsts[other]):
            raise InvalidOperation("the open terms of a group do not become equal")
    draft.inner[block] = [one for one in draft.inner[block] if one not in firsts]
    return draft.result()
