"""Positions and the arcs between them, and by them: whether every chase of a program ends."""

from everytarget.errors import NotValid
from everytarget.values import frontier, made_variables


def is_whole_number(value):
    """True if this is an integer; for any value."""
    return isinstance(value, int) and not isinstance(value, bool)


def make_rules(program):
    """The make rules of the program."""
    return [rule for rule in program["rules"] if rule[0] == "make"]


def places_of(name, atoms):
    """The positions at which a variable stands in the atoms."""
    return [(relation, at) for relation, slots in atoms for at, slot in enumerate(slots) if slot == name]


def made_places(rule):
    """The positions at which a made variable stands in the head of a make rule."""
    return [place for name in made_variables(rule) for place in places_of(name, rule[2])]


def positions(program):
    """The list of all positions, ascending."""
    every = {**program["source"], **program["target"]}
    return sorted([(relation, at) for relation in every for at in range(every[relation])])


def arcs_of_rule(rule):
    """The arcs of a make rule."""
    _, body, head = rule
    found = []
    for name in frontier(rule):
        for begin in places_of(name, body):
            found.extend([("plain", begin, end) for end in places_of(name, head)])
            found.extend([("making", begin, end) for end in made_places(rule)])
    return found


def arcs(program):
    """The list of the arcs, tuples (kind, from, to), each once, ascending."""
    return sorted({arc: True for rule in make_rules(program) for arc in arcs_of_rule(rule)})


def arcs_by_begin(program):
    """The list of the arcs that begin at each position."""
    found = {position: [] for position in positions(program)}
    for arc in arcs(program):
        found[arc[1]].append(arc)
    return found


def path_back(last_arcs, begin, end):
    """The arcs from begin to end, found from the last one to the first one."""
    found = []
    at = end
    while at != begin:
        found.append(last_arcs[at])
        at = last_arcs[at][1]
    return found[::-1]


def path(leaving, begin, end):
    """A list of arcs from one position to another one, or None if there is none."""
    last_arcs = {begin: None}
    waiting = [begin]
    while waiting:
        at = waiting.pop()
        if at == end:
            return path_back(last_arcs, begin, end)
        for arc in leaving[at]:
            if arc[2] not in last_arcs:
                last_arcs[arc[2]] = arc
                waiting.append(arc[2])
    return None


def ring(program):
    """A ring of the program, or None if there is none."""
    leaving = arcs_by_begin(program)
    for arc in arcs(program):
        if arc[0] == "making":
            rest = path(leaving, arc[2], arc[1])
            if rest is not None:
                return [arc] + rest
    return None


def least_at_end(arc, rank):
    """The least rank at the end of an arc that has this rank at its beginning."""
    return rank + 1 if arc[0] == "making" else rank


def ranks(program):
    """The least right ranks, or None if there is a ring."""
    if ring(program) is not None:
        return None
    found = {position: 0 for position in positions(program)}
    for rule in make_rules(program):
        for place in made_places(rule):
            found[place] = 1
    links = arcs(program)
    # Without a ring no rank can rise for ever.
    rises = True
    while rises:
        rises = False
        for arc in links:
            least = least_at_end(arc, found[arc[1]])
            if found[arc[2]] < least:
                found[arc[2]] = least
                rises = True
    return found


def is_position(value):
    """True if this has the form of a position; for any value."""
    # True and 1 are the same key of a dict, but not the same index.
    return isinstance(value, tuple) and len(value) == 2 and isinstance(value[0], str) and is_whole_number(value[1])


def is_arc(value):
    """True if this has the form of an arc; for any value."""
    if not isinstance(value, tuple) or len(value) != 3 or not isinstance(value[0], str):
        return False
    return is_position(value[1]) and is_position(value[2])


def are_ranks(program, value):
    """True if this is a dict from the positions to integers of at least 0; for any value."""
    if not isinstance(value, dict) or not all(is_position(key) for key in value):
        return False
    if not all(is_whole_number(value[key]) and value[key] >= 0 for key in value):
        return False
    every = positions(program)
    return len(value) == len(every) and all(position in value for position in every)


def judge_ranks(program, ranks):
    """True if the ranks are right; for any value."""
    if not are_ranks(program, ranks):
        return False
    for rule in make_rules(program):
        if any(ranks[place] < 1 for place in made_places(rule)):
            return False
    return all(ranks[arc[2]] >= least_at_end(arc, ranks[arc[1]]) for arc in arcs(program))


def judge_ring(program, ring):
    """True if this is a ring of the program; for any value."""
    if not isinstance(ring, list) or not all(is_arc(arc) for arc in ring):
        return False
    known = {arc: True for arc in arcs(program)}
    if not all(arc in known for arc in ring):
        return False
    # For the first arc the one before is the last one.
    is_closed = all(ring[at - 1][2] == ring[at][1] for at in range(len(ring)))
    return is_closed and any(arc[0] == "making" for arc in ring)


def greatest_rank(program):
    """The greatest least rank, 0 without positions; raises NotValid if the program does not end."""
    found = ranks(program)
    if found is None:
        raise NotValid()
    return max(found.values(), default=0)


def power(many, times):
    """A number multiplied with itself so many times, 1 for no time."""
    result = 1
    for _ in range(times):
        result = result * many
    return result


def most_values(program, constants):
    """The most values of a chase with so many constants and free unknowns; raises NotValid if there is a ring."""
    rounds = greatest_rank(program)
    made = [(len(made_variables(rule)), len(frontier(rule))) for rule in make_rules(program)]
    many = constants
    for _ in range(rounds):
        many = constants + sum([variables * power(many, shared) for variables, shared in made])
    return many
