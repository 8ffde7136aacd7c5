"""Slow and plain ways to the same ends, apart from the ways of the program; and programs by chance."""

import itertools

from everytarget.values import value_key


def parts_of(value):
    """A value and all that stand within it."""
    out = {value}
    if len(value) == 2:
        for part in value[1]:
            out |= parts_of(part)
    return out


def parted(values, pairs):
    """A dict that gives each value a member of its class, by trying all pairs again and again."""
    every = set()
    for value in list(values) + [value for pair in pairs for value in pair]:
        every |= parts_of(value)
    where = {value: value for value in every}
    waiting = list(pairs)
    while waiting:
        for one, other in waiting:
            kept, lost = where[one], where[other]
            where = {value: kept if where[value] == lost else where[value] for value in where}
        unknowns = [value for value in every if len(value) == 2]
        waiting = [
            (one, other) for one, other in itertools.combinations(unknowns, 2)
            if where[one] != where[other] and one[0] == other[0]
            and [where[part] for part in one[1]] == [where[part] for part in other[1]]]
    return where


def least_names(where):
    """The names of point [14]: depths first, then, class by class, the least candidate of this depth."""
    depths = {}
    for _ in range(len(where) + 1):
        for value in where:
            if len(value) == 1:
                depths[where[value]] = 0
            elif all(where[part] in depths for part in value[1]):
                found = 1 + max([depths[where[part]] for part in value[1]], default=0)
                depths[where[value]] = min(found, depths.get(where[value], found))
    names = {}
    for place in sorted(depths, key=lambda place: depths[place]):
        candidates = []
        for value in where:
            if where[value] == place and len(value) == 1:
                candidates.append(value)
            elif where[value] == place and all(where[part] in names for part in value[1]):
                candidates.append((value[0], tuple([names[where[part]] for part in value[1]])))
        names[place] = min(candidates, key=value_key)
    return {value: names[where[value]] for value in where}


def is_constant(value):
    return len(value) == 1 and value[0][0] != "?"


def variables(atoms):
    return list(dict.fromkeys(slot for _, slots in atoms for slot in slots if isinstance(slot, str)))


def fact_by(atom, binding):
    return (atom[0], tuple([binding[slot] if isinstance(slot, str) else slot for slot in atom[1]]))


def head_facts(number, rule, binding):
    body, head = variables(rule[1]), variables(rule[2])
    shared = tuple([binding[name] for name in body if name in head])
    made = {name: (f"{number}.{name}", shared) for name in head if name not in body}
    return [fact_by(atom, {**binding, **made}) for atom in rule[2]]


class NaiveChase:
    """Keeps all facts as they were made and all pairs of values that were made equal."""

    def __init__(self, program, source, known):
        self.program = program
        self.facts = list(source) + list(known)
        self.pairs = []

    def names(self, further):
        values = [value for _, values in self.facts + further for value in values]
        return least_names(parted(values, self.pairs))

    def named(self, facts, further=()):
        names = self.names(list(further))
        return [(relation, tuple([names[value] for value in values])) for relation, values in facts]

    def has_clash(self):
        values = [value for _, values in self.facts for value in values]
        where = parted(values, self.pairs)
        constants = [value for value in where if is_constant(value)]
        return len({where[value] for value in constants}) < len(constants)

    def is_open(self, number, rule, binding, there):
        if rule[0] == "same":
            return binding[rule[2]] != binding[rule[3]]
        facts = head_facts(number, rule, binding)
        return any(fact not in there for fact in self.named(facts, facts))

    def open_steps(self):
        if self.has_clash():
            return []
        there = set(self.named(self.facts))
        values = sorted({value for _, values in there for value in values})
        out = []
        for number, rule in enumerate(self.program["rules"]):
            names = variables(rule[1])
            for choice in itertools.product(values, repeat=len(names)):
                binding = dict(zip(names, choice))
                if all(fact_by(atom, binding) in there for atom in rule[1]):
                    if self.is_open(number, rule, binding, there):
                        out.append((number, choice))
        return sorted(out)

    def make(self, step):
        number, values = step
        rule = self.program["rules"][number]
        binding = dict(zip(variables(rule[1]), values))
        if rule[0] == "same":
            self.pairs.append((binding[rule[2]], binding[rule[3]]))
        else:
            self.facts += head_facts(number, rule, binding)

    def outcome(self):
        if self.has_clash():
            return ("clash", ())
        target = self.program["target"]
        return ("target", tuple(sorted({fact for fact in self.named(self.facts) if fact[0] in target})))


SOURCE = {"s": 1, "r": 2}
TARGET = {"t0": 2, "t1": 2, "t2": 1}
CONSTANTS = [("a",), ("b",), ("c",)]
FREE = [("?x",), ("?y",)]


def some_atoms(chance, relations, names, many):
    atoms = []
    for _ in range(many):
        relation = chance.choice(sorted(relations))
        slots = chance.sample(names, relations[relation])
        if chance.randint(0, 5) == 0:
            slots[0] = chance.choice(CONSTANTS + [slots[-1]])
        atoms.append((relation, tuple(slots)))
    return tuple(atoms)


def some_rule(chance, kind):
    """A rule of the kind, by which unknowns are made only for relations with a greater number."""
    if kind == "source":
        body = some_atoms(chance, SOURCE, ["x", "y"], chance.choice([1, 1, 2]))
        return ("make", body, some_atoms(chance, TARGET, ["x", "y", "z", "u"], chance.randint(1, 2)))
    names = sorted(TARGET)
    if kind == "up":
        level = chance.randint(1, 2)
        body = some_atoms(chance, {name: TARGET[name] for name in names[:level]}, ["x", "y"], chance.choice([1, 1, 2]))
        above = {name: TARGET[name] for name in names[level:]}
        return ("make", body, some_atoms(chance, above, ["x", "y", "z"], chance.randint(1, 2)))
    level = {name: TARGET[name] for name in [chance.choice(names)]}
    body = some_atoms(chance, level, ["x", "y", "v"], 2)
    inside = variables(body)
    if len(inside) < 2:
        return some_rule(chance, kind)
    if kind == "full":
        return ("make", body, some_atoms(chance, level, inside, 1))
    return ("same", body, chance.choice(inside), chance.choice(inside))


def some_program(chance):
    kinds = ["source"] + [chance.choice(["source", "up", "up", "full", "same", "same"]) for _ in range(3)]
    rules = tuple([some_rule(chance, kind) for kind in chance.sample(kinds, chance.randint(2, 4))])
    return {"source": dict(SOURCE), "target": dict(TARGET), "rules": rules}


def some_book(chance, relations, values, most):
    facts = set()
    for _ in range(chance.randint(most // 2, most)):
        relation = chance.choice(sorted(relations))
        facts.add((relation, tuple([chance.choice(values) for _ in range(relations[relation])])))
    return tuple(sorted(facts))


def some_case(chance):
    """A program, a source book and a book of known facts."""
    program = some_program(chance)
    source = some_book(chance, SOURCE, CONSTANTS, 5)
    known = some_book(chance, TARGET, CONSTANTS + FREE, 3) if chance.randint(0, 2) else ()
    return program, source, known


def bindings(atoms, facts, start):
    """All bindings that extend start by which the facts of the atoms are there, by trying all values."""
    names = [name for name in variables(atoms) if name not in start]
    values = sorted({value for _, values in facts for value in values} | set(start.values()))
    for choice in itertools.product(values, repeat=len(names)):
        binding = {**start, **dict(zip(names, choice))}
        if all(fact_by(atom, binding) in facts for atom in atoms):
            yield binding


def keeps(rule, source, book):
    """True if the book of target facts keeps the rule, unknowns being values of their own."""
    facts = set(source) | set(book)
    for binding in list(bindings(rule[1], facts, {})):
        if rule[0] == "same":
            if binding[rule[2]] != binding[rule[3]]:
                return False
        else:
            shared = {name: binding[name] for name in binding if name in variables(rule[2])}
            if not any(True for _ in bindings(rule[2], facts, shared)):
                return False
    return True


def all_books(relations, values):
    """All books over these relations and values."""
    every = sorted(
        (name, choice) for name in relations for choice in itertools.product(values, repeat=relations[name]))
    for many in range(len(every) + 1):
        yield from itertools.combinations(every, many)


def answers(question, book):
    """All answers of a question in a book."""
    out = set()
    for slots, body in question:
        for binding in bindings(body, set(book), {}):
            out.add(fact_by(("", slots), binding)[1])
    return out


def some_free_program(chance):
    """A program with any rules: its chase may go on for ever."""
    rules = []
    for _ in range(chance.randint(1, 4)):
        side = chance.choice([SOURCE, TARGET, TARGET])
        body = some_atoms(chance, side, ["x", "y", "v"], chance.choice([1, 1, 2]))
        inside = variables(body)
        if side is TARGET and len(inside) > 1 and chance.randint(0, 3) == 0:
            rules.append(("same", body, inside[0], chance.choice(inside)))
        else:
            names = chance.choice([["x", "y", "z", "w"], ["x", "y"], ["v", "x", "z"], ["z", "w"], ["x", "z"]])
            rules.append(("make", body, some_atoms(chance, TARGET, names, chance.choice([1, 1, 2]))))
    return {"source": dict(SOURCE), "target": dict(TARGET), "rules": tuple(rules)}


def places(name, atoms):
    return {(relation, at) for relation, slots in atoms for at, slot in enumerate(slots) if slot == name}


def all_arcs(program):
    """The arcs of point [30], ascending, by trying all pairs of positions."""
    every = [(name, at) for side in ("source", "target") for name in program[side] for at in range(program[side][name])]
    out = set()
    for begin, end in itertools.product(every, repeat=2):
        for rule in program["rules"]:
            if rule[0] == "make":
                body, head = variables(rule[1]), variables(rule[2])
                shared = [name for name in body if name in head]
                if any(begin in places(name, rule[1]) and end in places(name, rule[2]) for name in shared):
                    out.add(("plain", begin, end))
                begins = any(begin in places(name, rule[1]) for name in shared)
                if begins and any(end in places(name, rule[2]) for name in head if name not in body):
                    out.add(("making", begin, end))
    return sorted(out)


def has_ring(program):
    """True if from the end of some making arc its beginning is reached, by the closure of the arcs."""
    links = all_arcs(program)
    reached = {(begin, end) for _, begin, end in links}
    grown = True
    while grown:
        more = {(one, last) for one, begin in reached for end, last in reached if begin == end}
        grown = not more <= reached
        reached |= more
    return any(begin == end or (end, begin) in reached for kind, begin, end in links if kind == "making")


def values_of(book):
    return sorted({value for _, values in book for value in values})


def is_map(book, other, image):
    """True if this dict from the values of the book is a map into the other one."""
    if any(is_constant(value) and image[value] != value for value in image):
        return False
    return all((relation, tuple([image[value] for value in values])) in other for relation, values in book)


def first_map(book, other):
    """The first map of point [41], by trying all images of all facts in their order."""
    choices = [[fact for fact in other if fact[0] == relation] for relation, _ in book]
    for rows in itertools.product(*choices):
        image = {}
        pairs = [pair for fact, row in zip(book, rows) for pair in zip(fact[1], row[1])]
        if all(image.setdefault(value, told) == told for value, told in pairs) and is_map(book, other, image):
            return image
    return None


def first_fold(book):
    for fact in book:
        if not all(map(is_constant, fact[1])):
            image = first_map(book, tuple([other for other in book if other != fact]))
            if image is not None:
                return image
    return None


def are_alike(one, other):
    """True if some exchange of the unknowns makes one book the other, by trying all of them."""
    unknowns = [value for value in values_of(one) if not is_constant(value)]
    others = [value for value in values_of(other) if not is_constant(value)]
    if len(unknowns) != len(others):
        return False
    for choice in itertools.permutations(others):
        image = {value: value for value in values_of(one)}
        image.update(zip(unknowns, choice))
        facts = [(relation, tuple([image[value] for value in values])) for relation, values in one]
        if sorted(facts) == list(other):
            return True
    return False


def parted_source(source):
    """The facts in groups that share constants, by joining groups again and again."""
    groups = [{fact} for fact in source]
    joined = True
    while joined:
        joined = False
        for one, other in itertools.combinations(groups, 2):
            if {value for fact in one for value in fact[1]} & {value for fact in other for value in fact[1]}:
                groups = [group for group in groups if group not in (one, other)] + [one | other]
                joined = True
                break
    return sorted([tuple(sorted(group)) for group in groups])


def into(program, book, other):
    """The map of point [38], or None, by trying all bindings of heads."""
    images = {}

    def image_of(value):
        if is_constant(value):
            return value
        label, values = value
        number, name = label.split(".")
        _, body, head = program["rules"][int(number)]
        shared = [name for name in variables(body) if name in variables(head)]
        start = {name: image_of(part) for name, part in zip(shared, values)}
        found = [([fact_by(atom, binding) for atom in head], binding[name]) for binding in bindings(head, set(other), start)]
        return min(found)[1]

    try:
        images = {value: image_of(value) for value in values_of(book)}
    except ValueError:
        return None
    return images if is_map(book, other, images) else None
