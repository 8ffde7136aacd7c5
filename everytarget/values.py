"""Values, facts, books, rules, programs and questions, and what is read off them."""

LETTERS = "abcdefghijklmnopqrstuvwxyz"
DIGITS = "0123456789"
# Python's own tests for letters and digits also take signs of other scripts.
SIGNS = "abcdefghijklmnopqrstuvwxyz0123456789"
LONGEST_NAME = 8
MOST_PLACES = 4
PROGRAM_KEYS = ("source", "target", "rules")


def is_name(value):
    """True if this is a string of 1 to 8 of the signs."""
    if not isinstance(value, str) or not 1 <= len(value) <= LONGEST_NAME:
        return False
    return all(sign in SIGNS for sign in value)


def is_variable(value):
    """True if this is a name that begins with a letter."""
    return is_name(value) and value[0] in LETTERS


def is_constant(value):
    """True if this is a constant; for any value."""
    return isinstance(value, tuple) and len(value) == 1 and is_name(value[0])


def is_free(value):
    """True if this is a free unknown."""
    if not isinstance(value, tuple) or len(value) != 1 or not isinstance(value[0], str):
        return False
    return value[0].startswith("?") and is_name(value[0][1:])


def is_rule_number(text):
    """True if this string is a number without leading zeros."""
    if text == "" or not all(sign in DIGITS for sign in text):
        return False
    return text == "0" or text[0] != "0"


def is_label(value):
    """True if this is the label of a made unknown."""
    if not isinstance(value, str):
        return False
    number, _, variable = value.partition(".")
    return is_rule_number(number) and is_variable(variable)


def is_made_but_for_values(value):
    """True if this is a made unknown, whatever stands in the tuple of its values."""
    if not isinstance(value, tuple) or len(value) != 2:
        return False
    return is_label(value[0]) and isinstance(value[1], tuple)


def is_value(value):
    """True if this is a value; for any value."""
    # A list of what waits, for values may stand deeper than calls may nest.
    waiting = [value]
    while waiting:
        part = waiting.pop()
        if is_made_but_for_values(part):
            waiting.extend(part[1])
        elif not is_constant(part) and not is_free(part):
            return False
    return True


def made_ones(values):
    """The made unknowns among these values."""
    return [value for value in values if len(value) == 2]


def depth(value):
    """The greatest number of made unknowns that stand one in the other."""
    many = 0
    unknowns = made_ones([value])
    while unknowns:
        many += 1
        unknowns = made_ones([part for unknown in unknowns for part in unknown[1]])
    return many


def value_key(value):
    """What values are ordered by where the names of classes are chosen."""
    return (depth(value), 0 if is_constant(value) else 1, value)


def text_of(value):
    """A string for a value or a fact, which no other value or fact has.

    The order of these strings is that of the tuples: the blank that ends each
    part comes before all signs of names and labels. Unlike the tuples, they can
    be keys and be compared however deep the value is.
    """
    parts = []
    waiting = [value]
    while waiting:
        part = waiting.pop()
        if isinstance(part, str):
            parts.append(part)
        else:
            parts.append(part[0])
            if len(part) == 2:
                # The empty part ends the values of this one.
                waiting.append("")
                waiting.extend(part[1][::-1])
    return " ".join(parts) + " "


def made(rule, variable, values):
    """The unknown that a rule makes for a variable and the values of its frontier."""
    return (f"{rule}.{variable}", tuple(values))


def is_fact(value, relations):
    """True if this is a fact of one of the relations, with as many values as it has places."""
    if not isinstance(value, tuple) or len(value) != 2:
        return False
    relation, values = value
    if not isinstance(relation, str) or relation not in relations:
        return False
    if not isinstance(values, tuple) or len(values) != relations[relation]:
        return False
    return all(is_value(part) for part in values)


def is_book(facts, relations):
    """True if this is a book whose facts fit to the relations; for any value."""
    if not isinstance(facts, tuple) or not all(is_fact(fact, relations) for fact in facts):
        return False
    texts = [text_of(fact) for fact in facts]
    return all(texts[at] < texts[at + 1] for at in range(len(texts) - 1))


def texts_of(book):
    """A dict that has the texts of the book's facts as its keys."""
    return {text_of(fact): True for fact in book}


def book_of(facts):
    """The book of these facts."""
    by_text = {text_of(fact): fact for fact in facts}
    return tuple([by_text[text] for text in sorted(by_text)])


def is_slot(value):
    """True if this is a variable or a constant."""
    return is_variable(value) or is_constant(value)


def is_atom(value, relations):
    """True if this is an atom of one of the relations, with as many slots as it has places."""
    if not isinstance(value, tuple) or len(value) != 2:
        return False
    relation, slots = value
    if not isinstance(relation, str) or relation not in relations:
        return False
    if not isinstance(slots, tuple) or len(slots) != relations[relation]:
        return False
    return all(is_slot(slot) for slot in slots)


def are_atoms(value, relations):
    """True if this is a tuple of at least one atom of the relations."""
    if not isinstance(value, tuple) or len(value) == 0:
        return False
    return all(is_atom(atom, relations) for atom in value)


def variables_of(atoms):
    """The variables of the atoms, in the order in which they first stand there."""
    variables = {}
    for _, slots in atoms:
        for slot in slots:
            if isinstance(slot, str):
                variables[slot] = True
    return tuple(variables)


def is_variable_of(value, atoms):
    """True if this is a variable that stands in the atoms."""
    return isinstance(value, str) and value in variables_of(atoms)


def frontier(rule):
    """The variables of a make rule's body that are in its head too."""
    _, body, head = rule
    inside = variables_of(head)
    return tuple([name for name in variables_of(body) if name in inside])


def made_variables(rule):
    """The variables of a make rule's head that are not in its body."""
    _, body, head = rule
    inside = variables_of(body)
    return tuple([name for name in variables_of(head) if name not in inside])


def values_of_slots(slots, binding):
    """The tuple of the slots in which each variable is replaced by its value."""
    return tuple([binding[slot] if isinstance(slot, str) else slot for slot in slots])


def fact_of(atom, binding):
    """The fact of an atom in which each variable is replaced by its value."""
    relation, slots = atom
    return (relation, values_of_slots(slots, binding))


def is_number_of_places(value):
    """True if a relation may have so many places."""
    if not isinstance(value, int) or isinstance(value, bool):
        return False
    return 1 <= value <= MOST_PLACES


def are_relations(value):
    """True if this is a dict from names of relations to numbers of places."""
    if not isinstance(value, dict):
        return False
    return all(is_variable(name) and is_number_of_places(value[name]) for name in value)


def is_make_rule(value, source, target):
    """True if this tuple is a make rule over these relations."""
    if len(value) != 3 or value[0] != "make":
        return False
    _, body, head = value
    if not are_atoms(body, source) and not are_atoms(body, target):
        return False
    return are_atoms(head, target)


def is_same_rule(value, target):
    """True if this tuple is a same rule over these relations."""
    if len(value) != 4 or value[0] != "same":
        return False
    _, body, left, right = value
    if not are_atoms(body, target):
        return False
    return is_variable_of(left, body) and is_variable_of(right, body)


def is_rule(value, source, target):
    """True if this is a rule over these relations."""
    if not isinstance(value, tuple) or len(value) == 0 or not isinstance(value[0], str):
        return False
    return is_make_rule(value, source, target) or is_same_rule(value, target)


def is_program(value):
    """True if this is a program; for any value."""
    if not isinstance(value, dict) or len(value) != len(PROGRAM_KEYS):
        return False
    if not all(key in value for key in PROGRAM_KEYS):
        return False
    source, target, rules = value["source"], value["target"], value["rules"]
    if not are_relations(source) or not are_relations(target):
        return False
    if any(name in source for name in target) or not isinstance(rules, tuple):
        return False
    return all(is_rule(rule, source, target) for rule in rules)


def is_clause(value, relations):
    """True if this is a clause of a question over the relations of a target."""
    if not isinstance(value, tuple) or len(value) != 2:
        return False
    slots, body = value
    if not isinstance(slots, tuple) or len(slots) > MOST_PLACES or not are_atoms(body, relations):
        return False
    return all(is_constant(slot) or is_variable_of(slot, body) for slot in slots)


def is_question(value, program):
    """True if this is a question to targets of the program; for any value."""
    if not isinstance(value, tuple) or len(value) == 0:
        return False
    if not all(is_clause(clause, program["target"]) for clause in value):
        return False
    many = len(value[0][0])
    return all(len(slots) == many for slots, _ in value)
