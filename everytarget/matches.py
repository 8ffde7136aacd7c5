"""The matches of atoms in facts."""

from everytarget.values import text_of, variables_of


def rows_of(atoms, facts):
    """For each relation of the atoms its facts, ascending, with the texts of their values."""
    rows = {atom[0]: [] for atom in atoms}
    for fact in facts:
        if fact[0] in rows:
            rows[fact[0]].append(([text_of(value) for value in fact[1]], fact))
    return {relation: sorted(rows[relation], key=lambda row: row[0]) for relation in rows}


def named_texts(slots, texts):
    """The texts of the variables if a fact with these texts fits to the slots, or None."""
    if len(slots) != len(texts):
        return None
    named = {}
    for slot, text in zip(slots, texts):
        wanted = named.setdefault(slot, text) if isinstance(slot, str) else text_of(slot)
        if wanted != text:
            return None
    return named


def table_of(atom, rows, bound):
    """The atom's variables that are bound before, and the fitting facts by the texts of these."""
    shared = [name for name in variables_of((atom,)) if name in bound]
    table = {}
    for texts, fact in rows:
        named = named_texts(atom[1], texts)
        if named is not None:
            key = tuple([named[name] for name in shared])
            table.setdefault(key, []).append((fact, named))
    return shared, table


def tables_of(atoms, facts, start):
    """A table for each atom, by the variables of start and of the atoms before it."""
    rows = rows_of(atoms, facts)
    bound = {name: True for name in start}
    tables = []
    for atom in atoms:
        tables.append(table_of(atom, rows[atom[0]], bound))
        for name in variables_of((atom,)):
            bound[name] = True
    return tables


def matching_facts(atoms, facts, start):
    """Yields the tuple of facts of each match, in ascending order."""
    tables = tables_of(atoms, facts, start)
    # The last one that waits is the next one to come, so lesser facts are put behind greater ones.
    waiting = [((), {name: text_of(start[name]) for name in start})]
    while waiting:
        chosen, texts = waiting.pop()
        if len(chosen) == len(atoms):
            yield chosen
        else:
            shared, table = tables[len(chosen)]
            key = tuple([texts[name] for name in shared])
            for fact, named in table.get(key, [])[::-1]:
                waiting.append(((*chosen, fact), {**texts, **named}))


def binding_of(atoms, chosen, start):
    """The dict start, extended by the values that the atoms' variables have in the facts."""
    binding = dict(start)
    for atom, fact in zip(atoms, chosen):
        for slot, value in zip(atom[1], fact[1]):
            if isinstance(slot, str):
                binding[slot] = value
    return binding


def matches(atoms, facts, start):
    """The list of the matches that extend start, as tuples (binding, facts)."""
    found = []
    for chosen in matching_facts(atoms, facts, start):
        found.append((binding_of(atoms, chosen, start), chosen))
    return found


def first_match(atoms, facts, start):
    """The binding of the first match that extends start, or None if there is none."""
    for chosen in matching_facts(atoms, facts, start):
        return binding_of(atoms, chosen, start)
    return None


def has_match(atoms, facts, start):
    """True if there is a match that extends start."""
    return first_match(atoms, facts, start) is not None
