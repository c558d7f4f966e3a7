"""Families and graphs as programs: what stands in their unfoldings, and whether these are alike."""

from sharedlets.alike.differences import Search
from sharedlets.checks import check_many, is_whole
from sharedlets.families.outlines import OWN, Outline, part_ranks_of_both, way_of


def look_in(program, address):
    """The look of the place at a plain address."""
    outline = Outline(program)
    number, copies = way_of(outline, address)[-1]
    return outline.look_of(number, copies, len(address))


def needed_at(program, address):
    """The addresses of all functions above a place whose variables are used at or below it."""
    _, copies = way_of(Outline(program), address)[-1]
    return tuple([address[:length] for length in sorted(copies)])


def alike_programs(first, second):
    """Whether two programs are alike."""
    one, two = Outline(first), Outline(second)
    ranks, others = part_ranks_of_both(one, two)
    return ranks[one.first] == others[two.first]


def _met_pairs(one, two):
    """The list of the pairs of places to which the same addresses lead in two outlines that are alike."""
    top = (one.first, two.first)
    met = {top: True}
    waiting = [top]
    while waiting:
        number, partner = waiting.pop()
        for pair in zip(one.rows[number], two.rows[partner]):
            if pair not in met:
                met[pair] = True
                waiting.append(pair)
    return list(met)


def table(first, second):
    """The table of two programs with the fewest triples, or None if they are not alike."""
    one, two = Outline(first), Outline(second)
    ranks, others = part_ranks_of_both(one, two)
    if ranks[one.first] != others[two.first]:
        return None
    rows = []
    for number, partner in _met_pairs(one, two):
        # Places of one part have their needs in one order.
        pairs = sorted(zip(one.needed[number], two.needed[partner]))
        rows.append((one.places[number], two.places[partner], tuple(pairs)))
    return tuple(sorted(rows))


def _is_ascending(values):
    return all([one < two for one, two in zip(values, values[1:])])


def _is_need(value, needs):
    """Whether the value is one of these needs."""
    return (is_whole(value) or isinstance(value, str)) and value in needs


def _are_pairs(value, needs, others):
    """Whether the value is an ascending tuple of pairs in which each need of two places stands exactly once."""
    if not isinstance(value, tuple) or not len(value) == len(needs) == len(others):
        return False
    for pair in value:
        if not isinstance(pair, tuple) or len(pair) != 2:
            return False
        if not _is_need(pair[0], needs) or not _is_need(pair[1], others):
            return False
    return _is_ascending([need for need, _ in value]) and len(set([other for _, other in value])) == len(value)


def _is_triple(one, two, value):
    """Whether the value is built like a triple of a table, whatever its children are."""
    if not isinstance(value, tuple) or len(value) != 3:
        return False
    number, partner = one.number_at(value[0]), two.number_at(value[1])
    if number is None or partner is None or one.marks[number] != two.marks[partner]:
        return False
    return _are_pairs(value[2], one.needed[number], two.needed[partner])


def _triple_below(one, two, triple, step):
    """The triple that follows for a child; where a need is left over, its pairs have fewer needs than there are."""
    number, partner = one.number_at(triple[0]), two.number_at(triple[1])
    # Needs are numbered by their pairs, and those of children by what they stand for.
    indexes = {need: index for index, (need, _) in enumerate(triple[2])}
    others = {need: index for index, (_, need) in enumerate(triple[2])}
    inner = one.handed(number, step, [indexes[need] for need in one.needed[number]], OWN)
    outer = two.handed(partner, step, [others[need] for need in two.needed[partner]], OWN)
    child, other = one.rows[number][step], two.rows[partner][step]
    found = dict(zip(outer, two.needed[other]))
    pairs = [(need, found[index]) for need, index in zip(one.needed[child], inner) if index in found]
    return (one.places[child], two.places[other], tuple(sorted(pairs)))


def is_table(first, second, value):
    """Whether the value is a table of two programs."""
    one, two = Outline(first), Outline(second)
    if not isinstance(value, tuple) or not all([_is_triple(one, two, triple) for triple in value]):
        return False
    triples = {triple: True for triple in value}
    if not _is_ascending(value) or (one.places[one.first], two.places[two.first], ()) not in triples:
        return False
    for triple in value:
        for step in range(len(one.rows[one.number_at(triple[0])])):
            if _triple_below(one, two, triple, step) not in triples:
                return False
    return True


def program_difference(first, second):
    """The first address with different looks in two programs, with both looks, or None if they are alike."""
    address = Search(Outline(first), Outline(second)).first_address()
    if address is None:
        return None
    return (address, look_in(first, address), look_in(second, address))


def are_alike_to(first, second, depth):
    """Whether all looks at addresses of at most this length are equal in two programs."""
    one, two = Outline(first), Outline(second)
    check_many(depth)
    address = Search(one, two).first_address()
    return address is None or len(address) > depth
