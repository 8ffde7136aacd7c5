"""The texts of programs and questions: reading them, and printing them."""

from everytarget.errors import BadText
from everytarget.values import LONGEST_NAME, MOST_PLACES, SIGNS, is_program, is_variable, variables_of

# The parts that are no words and no constants; each one is its own kind.
MARKS = ("(", ")", ",", "=", "->", "<-")
NUMBERS_OF_PLACES = ("1", "2", "3", "4")


def end_of_run(row, start):
    """The index behind the letters and digits that stand from this index on."""
    at = start
    while at < len(row) and row[at] in SIGNS:
        at += 1
    return at


def part_at(row, at):
    """The kind of the part that begins at this index, "" if none can begin there, and the part."""
    if row[at] in SIGNS:
        word = row[at:end_of_run(row, at)]
        return ("word" if len(word) <= LONGEST_NAME else "", word)
    if row[at] == "'":
        behind = end_of_run(row, at + 1)
        is_closed = row[behind:behind + 1] == "'"
        fits = is_closed and 1 <= behind - at - 1 <= LONGEST_NAME
        return ("constant" if fits else "", row[at:behind + 1])
    for mark in MARKS:
        if row[at:at + len(mark)] == mark:
            return (mark, mark)
    return ("", row[at])


def parts_of(row):
    """The parts of a row as tuples (kind, part, place), with "end" as the kind of the last one."""
    parts = []
    at = 0
    while at < len(row):
        if row[at] == " ":
            at += 1
        else:
            kind, part = part_at(row, at)
            parts.append((kind, part, at + 1))
            at += len(part)
    parts.append(("end", "", len(row) + 1))
    return parts


class Line:
    """Reads the parts of a line from left to right; the first one that does not fit is refused."""

    def __init__(self, number, row):
        self._number = number
        self._parts = parts_of(row)
        self._at = 0

    def comes(self, kind):
        """True if the next part is of this kind."""
        return self._parts[self._at][0] == kind

    def take(self, kind):
        """The next part, which must be of this kind."""
        if not self.comes(kind):
            self.refuse()
        part = self._parts[self._at][1]
        self._at += 1
        return part

    def take_one_of(self, words):
        """The next part, which must be one of these words."""
        if self._parts[self._at][1] not in words:
            self.refuse()
        return self.take("word")

    def take_name(self):
        """The next part, which must be a name."""
        if not is_variable(self._parts[self._at][1]):
            self.refuse()
        return self.take("word")

    def refuse(self):
        """Refuses the text at the next part."""
        raise BadText(self._number, self._parts[self._at][2])


def read_slot(line):
    """A variable or a constant."""
    if line.comes("constant"):
        return (line.take("constant")[1:-1],)
    return line.take_name()


def read_slots(line):
    """One or more slots and the closing sign behind them."""
    slots = [read_slot(line)]
    while line.comes(","):
        line.take(",")
        slots.append(read_slot(line))
    line.take(")")
    return tuple(slots)


def read_rest_of_atom(line, relation):
    """The atom of the relation, whose name was read."""
    line.take("(")
    return (relation, read_slots(line))


def read_further_atoms(line, first):
    """The tuple of the first atom, which was read, and of those behind commas."""
    atoms = [first]
    while line.comes(","):
        line.take(",")
        atoms.append(read_rest_of_atom(line, line.take_name()))
    return tuple(atoms)


def read_atoms(line):
    """One or more atoms."""
    return read_further_atoms(line, read_rest_of_atom(line, line.take_name()))


def read_rule(line):
    """A rule, behind the first word of its line."""
    body = read_atoms(line)
    line.take("->")
    name = line.take_name()
    if line.comes("="):
        line.take("=")
        return ("same", body, name, line.take_name())
    return ("make", body, read_further_atoms(line, read_rest_of_atom(line, name)))


def read_program_line(line):
    """The first word, the name of the relation or "", and the number of its places or the rule."""
    word = line.take_one_of(("source", "target", "rule"))
    if word == "rule":
        name, told = "", read_rule(line)
    else:
        name = line.take_name()
        told = int(line.take_one_of(NUMBERS_OF_PLACES))
    line.take("end")
    return (word, name, told)


def read_clause(line):
    """A clause of a question."""
    line.take("(")
    if line.comes(")"):
        line.take(")")
        slots = ()
    else:
        slots = read_slots(line)
    line.take("<-")
    body = read_atoms(line)
    line.take("end")
    return (slots, body)


def lines_of(text):
    """The lines of a text that have parts."""
    lines = [Line(at + 1, row) for at, row in enumerate(text.split("\n"))]
    return [line for line in lines if not line.comes("end")]


def parse(text):
    """The program that the text writes; raises BadText with the place of the first fault."""
    told = [read_program_line(line) for line in lines_of(text)]
    rules = tuple([worth for word, _, worth in told if word == "rule"])
    source = {name: places for word, name, places in told if word == "source"}
    target = {name: places for word, name, places in told if word == "target"}
    program = {"source": source, "target": target, "rules": rules}
    # Of two lines for the same relation on one side the dict keeps one only.
    if len(source) + len(target) + len(rules) != len(told) or not is_program(program):
        raise BadText(0, 0)
    return program


def is_right_clause(clause, many):
    """True if the clause has so many slots, with variables of its body only."""
    slots, body = clause
    names = variables_of(body)
    return len(slots) == many and all(slot in names for slot in slots if isinstance(slot, str))


def parse_question(text):
    """The question that the text writes; raises BadText with the place of the first fault."""
    question = tuple([read_clause(line) for line in lines_of(text)])
    if len(question) == 0 or len(question[0][0]) > MOST_PLACES:
        raise BadText(0, 0)
    if not all(is_right_clause(clause, len(question[0][0])) for clause in question):
        raise BadText(0, 0)
    return question


def printed_slots(slots):
    """The slots between parentheses."""
    return "(" + ", ".join([slot if isinstance(slot, str) else "'" + slot[0] + "'" for slot in slots]) + ")"


def printed_atoms(atoms):
    """The atoms with commas between them."""
    return ", ".join([relation + printed_slots(slots) for relation, slots in atoms])


def printed_rule(rule):
    """The line of a rule."""
    head = rule[2] + " = " + rule[3] if rule[0] == "same" else printed_atoms(rule[2])
    return "rule " + printed_atoms(rule[1]) + " -> " + head + "\n"


def printed_relations(word, relations):
    """The lines of the relations of one side."""
    return "".join([f"{word} {name} {relations[name]}\n" for name in sorted(relations)])


def print_program(program):
    """The printed form of a program."""
    rules = "".join([printed_rule(rule) for rule in program["rules"]])
    return printed_relations("source", program["source"]) + printed_relations("target", program["target"]) + rules


def print_question(question):
    """The printed form of a question."""
    return "".join([printed_slots(slots) + " <- " + printed_atoms(body) + "\n" for slots, body in question])
