"""Papers that show what follows, and the judge who takes them."""

from everytarget.chase import Chase
from everytarget.classes import Classes
from everytarget.matches import matches
from everytarget.steps import facts_of_atoms, facts_of_head, sides
from everytarget.values import is_constant, is_fact, is_value, text_of, texts_of, values_of_slots, variables_of


def is_number_below(value, limit):
    """True if this is an integer from 0 to below the limit; for any value."""
    return isinstance(value, int) and not isinstance(value, bool) and 0 <= value < limit


def are_constants(value):
    """True if this is a tuple of constants; for any value."""
    return isinstance(value, tuple) and all(is_constant(part) for part in value)


def are_values(value, many):
    """True if this is a tuple of so many values; for any value."""
    if not isinstance(value, tuple) or len(value) != many:
        return False
    return all(is_value(part) for part in value)


def is_line(value, kind, many):
    """True if this is a tuple of so many parts that begins with the kind; for any value."""
    if not isinstance(value, tuple) or len(value) != many:
        return False
    return isinstance(value[0], str) and value[0] == kind


class Judge:
    """Takes a paper line by line, and keeps the facts of the lines and what is equal by them."""

    def __init__(self, program, source, known):
        self._program = program
        self._source_texts = texts_of(source)
        self._known_texts = texts_of(known)
        self._classes = Classes()
        self._facts = []

    def takes(self, line):
        """True if a line before the last one is right; its facts are kept then."""
        if is_line(line, "given", 2):
            return self._takes_fact(line[1], self._source_texts, self._program["source"])
        if is_line(line, "known", 2):
            return self._takes_fact(line[1], self._known_texts, self._program["target"])
        return is_line(line, "use", 4) and self._takes_use(line[1], line[2], line[3])

    def takes_answer(self, line, question, answer):
        """True if this is a right last line of a paper for the answer, a tuple of constants."""
        if not is_line(line, "answer", 4) or not is_number_below(line[1], len(question)):
            return False
        slots, body = question[line[1]]
        if len(slots) != len(answer) or not self._fits(body, line[2], line[3]):
            return False
        binding = dict(zip(variables_of(body), line[2]))
        return self._are_same(values_of_slots(slots, binding), answer)

    def takes_clash(self, line):
        """True if this is a right last line of a paper for a clash."""
        return is_line(line, "clash", 1) and self._classes.clash()

    def _takes_fact(self, fact, texts, relations):
        """True if this is a fact of the book that has these texts; for any value."""
        if not is_fact(fact, relations) or text_of(fact) not in texts:
            return False
        self._facts.append([fact])
        return True

    def _takes_use(self, number, values, places):
        """True if the rule is used rightly; what it makes equal is kept."""
        rules = self._program["rules"]
        if not is_number_below(number, len(rules)):
            return False
        rule = rules[number]
        if not self._fits(rule[1], values, places):
            return False
        if rule[0] == "same":
            left, right = sides(rule, values)
            self._classes.join_values(left, right)
            self._facts.append([])
        else:
            self._facts.append(facts_of_head(number, rule, values))
        return True

    def _fits(self, body, values, places):
        """True if the facts of the body for these values of its variables are at these places."""
        if not are_values(values, len(variables_of(body))):
            return False
        if not isinstance(places, tuple) or len(places) != len(body):
            return False
        for fact, place in zip(facts_of_atoms(body, values), places):
            if not self._is_at(fact, place):
                return False
        return True

    def _is_at(self, fact, place):
        """True if a fact equal to this one is at the place; for any value as the place."""
        if not isinstance(place, tuple) or len(place) != 2:
            return False
        line, index = place
        if not is_number_below(line, len(self._facts)):
            return False
        if not is_number_below(index, len(self._facts[line])):
            return False
        relation, values = self._facts[line][index]
        return relation == fact[0] and self._are_same(values, fact[1])

    def _are_same(self, values, others):
        """True if equally many values are equal, one by one."""
        return all([self._classes.same(one, other) for one, other in zip(values, others)])


def judge_before_end(program, source, known, paper):
    """The judge after all lines but the last one, or None if one is not right; for any paper."""
    if not isinstance(paper, list) or len(paper) == 0:
        return None
    judge = Judge(program, source, known)
    for line in paper[:-1]:
        if not judge.takes(line):
            return None
    return judge


def judge_answer(program, source, known, question, answer, paper):
    """True if the paper shows that this is an answer in every target."""
    if not are_constants(answer):
        return False
    judge = judge_before_end(program, source, known, paper)
    return judge is not None and judge.takes_answer(paper[-1], question, answer)


def judge_clash(program, source, known, paper):
    """True if the paper shows that there is no target."""
    judge = judge_before_end(program, source, known, paper)
    return judge is not None and judge.takes_clash(paper[-1])


def start_of(slots, answer):
    """The binding by which the slots have the answer's values, or None if there is none."""
    if len(slots) != len(answer):
        return None
    start = {}
    for slot, value in zip(slots, answer):
        wanted = start.setdefault(slot, value) if isinstance(slot, str) else slot
        if wanted != value:
            return None
    return start


def answer_line(chase, question, answer):
    """The last line of a paper for the answer, or None if it does not hold in the outcome."""
    _, book = chase.outcome()
    for number, (slots, body) in enumerate(question):
        start = start_of(slots, answer)
        if start is not None:
            for binding, facts in matches(body, book, start):
                values = tuple([binding[name] for name in variables_of(body)])
                return ("answer", number, values, tuple([chase.place_of(fact) for fact in facts]))
    return None


def answer_paper(program, source, known, question, answer):
    """A paper for the answer, or None if it does not hold; one for a clash where there is one."""
    chase = Chase(program, source, known)
    chase.run()
    if chase.classes().clash():
        return chase.lines() + [("clash",)]
    line = answer_line(chase, question, answer) if are_constants(answer) else None
    return None if line is None else chase.lines() + [line]


def clash_paper(program, source, known):
    """A paper for a clash, or None if there is none."""
    chase = Chase(program, source, known)
    chase.run()
    return chase.lines() + [("clash",)] if chase.classes().clash() else None
