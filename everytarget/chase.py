"""The chase: the rules are carried out, step by step, until no step is open."""

from everytarget.classes import Classes
from everytarget.errors import NotValid
from everytarget.matches import matches
from everytarget.steps import facts_of_atoms, facts_of_head, sides
from everytarget.values import book_of, variables_of


def facts_for(atoms, rows):
    """The facts of the atoms' relations, from the lists of facts of each relation."""
    facts = []
    for relation in {atom[0]: True for atom in atoms}:
        facts.extend(rows.get(relation, []))
    return facts


class Chase:
    """A chase of a source book and a book of known facts of the target."""

    def __init__(self, program, source, known):
        self._rules = program["rules"]
        self._target = dict(program["target"])
        self._classes = Classes()
        self._lines = []
        # A place of each fact, by its relation and the numbers of the classes of its values.
        self._places = {}
        # The open steps, or None as long as they are not listed after a step.
        self._steps = None
        for fact in source:
            self._tell(("given", fact), [fact])
        for fact in known:
            self._tell(("known", fact), [fact])

    def open_steps(self):
        """The list of the open steps, tuples (number of the rule, binding), ascending."""
        if self._steps is None:
            self._steps = self._found_steps()
        return list(self._steps)

    def make(self, index):
        """Makes the open step with this index, modulo their number; True if one was made."""
        steps = self.open_steps()
        if len(steps) == 0:
            return False
        number, values = steps[index % len(steps)]
        self._carry_out(number, values)
        return True

    def run(self):
        """Makes rounds until the chase has ended."""
        steps = self.open_steps()
        while steps:
            for number, values in steps:
                if not self._classes.clash() and self._is_open(number, values):
                    self._carry_out(number, tuple([self._classes.name(value) for value in values]))
            steps = self.open_steps()

    def has_ended(self):
        """True if no step is open."""
        return len(self.open_steps()) == 0

    def outcome(self):
        """("clash", ()), or ("target", book) with the facts by the names of their values."""
        if not self.has_ended():
            raise NotValid()
        if self._classes.clash():
            return ("clash", ())
        return ("target", book_of([fact for fact in self._named_facts() if fact[0] in self._target]))

    def lines(self):
        """The lines of a paper of everything that was done."""
        return list(self._lines)

    def classes(self):
        """The classes of the values of all facts."""
        return self._classes

    def place_of(self, fact):
        """The place (line, index) of a fact that is there by classes."""
        return self._places[self._key_of_fact(fact)]

    def _tell(self, line, facts):
        """Adds a line and its facts; a fact that is there already keeps its place."""
        for index, fact in enumerate(facts):
            self._places.setdefault(self._key_of_fact(fact), (len(self._lines), index))
        self._lines.append(line)
        self._steps = None

    def _key_of_fact(self, fact):
        """What facts with equal values have in common."""
        return (fact[0], tuple([self._classes.number(value) for value in fact[1]]))

    def _is_there(self, fact):
        """True if a fact is there, equal values counting as one; adds no value."""
        numbers = tuple([self._classes.number_if_there(value) for value in fact[1]])
        return (fact[0], numbers) in self._places

    def _named_facts(self):
        """All facts of the source and the target, with the names of their values."""
        facts = []
        for relation, numbers in self._places:
            facts.append((relation, tuple([self._classes.name_of(number) for number in numbers])))
        return facts

    def _facts_by_relation(self):
        """The list of the facts of each relation, with the names of their values."""
        rows = {}
        for fact in self._named_facts():
            rows.setdefault(fact[0], []).append(fact)
        return rows

    def _found_steps(self):
        """The open steps, ascending; none after a clash."""
        if self._classes.clash():
            return []
        rows = self._facts_by_relation()
        found = []
        for number, rule in enumerate(self._rules):
            names = variables_of(rule[1])
            # Ascending facts of the atoms are ascending values of their variables, too: no sorting is needed.
            for binding, _ in matches(rule[1], facts_for(rule[1], rows), {}):
                values = tuple([binding[name] for name in names])
                if self._is_open(number, values):
                    found.append((number, values))
        return found

    def _is_open(self, number, values):
        """True if the step of a rule and a match of its body changes something."""
        rule = self._rules[number]
        if rule[0] == "same":
            left, right = sides(rule, values)
            return not self._classes.same(left, right)
        return not all([self._is_there(fact) for fact in facts_of_head(number, rule, values)])

    def _carry_out(self, number, values):
        """Makes an open step and tells its line."""
        rule = self._rules[number]
        places = tuple([self.place_of(fact) for fact in facts_of_atoms(rule[1], values)])
        line = ("use", number, values, places)
        if rule[0] == "same":
            left, right = sides(rule, values)
            self._tell(line, [])
            self._classes.join_values(left, right)
            self._settle()
        else:
            self._tell(line, facts_of_head(number, rule, values))

    def _settle(self):
        """Makes one of the facts whose values have become equal."""
        places = {}
        for (relation, numbers), place in self._places.items():
            key = (relation, tuple([self._classes.settled(number) for number in numbers]))
            places.setdefault(key, place)
        self._places = places


def chased(program, source, known):
    """The outcome of a chase that is run to its end."""
    chase = Chase(program, source, known)
    chase.run()
    return chase.outcome()
