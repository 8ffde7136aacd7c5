"""Points [1], [20] to [23]: papers, and the judge who takes them."""

import copy
import pathlib
import random
import sys
import time
import unittest

sys.path.insert(0, str(pathlib.Path(__file__).resolve().parent))

from everytarget.chase import Chase, chased
from everytarget.papers import answer_paper, clash_paper, judge_answer, judge_clash
from everytarget.values import is_program, is_question
from naive import CONSTANTS, answers, is_constant, some_case

A = ("a",)
B = ("b",)
C = ("c",)
X = ("?x",)
Y = ("?y",)
NO_PAPERS = [
    None, 0, 1, -1, 2.5, True, False, "", "given", "clash", b"a", (), (("clash",),), ("clash",), {}, {"a": 1},
    {0: ("clash",)}, set(), object(), len, int, NotImplemented, range(1), [], [None], [0], ["clash"], ["given"],
    [[]], [()], [("answer",)], [{}], [("given",)], [True], [[("clash",)]], [["clash"]], [(None,)], [(0,)], [((),)],
]


class AlwaysEqual:
    """Equal to everything, and without a hash."""

    def __eq__(self, other):
        return True


def z(*values):
    return ("0.z", values)


def p(value):
    return ("p", (value,))


def e(one, other):
    return ("e", (one, other))


def q(one, other):
    return ("q", (one, other))


def t(value):
    return ("t", (value,))


def book(*facts):
    return tuple(sorted(facts))


# p(x), e(x, y) -> q(x, z), t(y) and q(x, y), q(x, v) -> y = v and t(x) -> q(x, x)
PROGRAM = {"source": {"p": 1, "e": 2}, "target": {"q": 2, "t": 1}, "rules": (
    ("make", (("p", ("x",)), ("e", ("x", "y"))), (("q", ("x", "z")), ("t", ("y",)))),
    ("same", (("q", ("x", "y")), ("q", ("x", "v"))), "y", "v"),
    ("make", (("t", ("x",)),), (("q", ("x", "x")),)),
)}
TOLD = (PROGRAM, book(p(A), p(B), e(A, C), e(B, B)), book(q(A, X), q(C, X), t(X)))
MADE = ("0.z", (A, C))
# (y, c) <- q(x, y), t(x) and (x, y) <- q(x, y), q(y, y)
QUESTION = (
    (("y", C), (("q", ("x", "y")), ("t", ("x",)))),
    (("x", "y"), (("q", ("x", "y")), ("q", ("y", "y")))),
)
PAPER = [
    ("given", p(A)),
    ("given", e(A, C)),
    ("known", q(C, X)),
    ("known", q(A, X)),
    ("use", 0, (A, C), ((0, 0), (1, 0))),
    ("use", 2, (C,), ((4, 1),)),
    ("use", 1, (C, X, C), ((2, 0), (5, 0))),
    ("use", 1, (A, MADE, X), ((4, 0), (3, 0))),
    ("answer", 1, (A, C), ((4, 0), (5, 0))),
]
ANSWER = (A, C)
CLASH = (PROGRAM, book(p(A), e(A, B)), book(q(B, C)))
CLASH_PAPER = [
    ("given", p(A)),
    ("given", e(A, B)),
    ("known", q(B, C)),
    ("use", 0, (A, B), ((0, 0), (1, 0))),
    ("use", 2, (B,), ((3, 1),)),
    ("use", 1, (B, B, C), ((4, 0), (2, 0))),
    ("clash",),
]


def with_line(at, line):
    return PAPER[:at] + [line] + PAPER[at + 1:]


class Case(unittest.TestCase):
    def assert_taken(self, paper, answer=ANSWER, told=TOLD, question=QUESTION):
        self.assertIs(judge_answer(*told, question, answer, paper), True)

    def assert_not_taken(self, paper, answer=ANSWER, told=TOLD, question=QUESTION):
        self.assertIs(judge_answer(*told, question, answer, paper), False, paper)


class Setting(Case):
    def test_programs_and_questions_are_right(self):
        self.assertTrue(is_program(PROGRAM))
        self.assertTrue(is_question(QUESTION, PROGRAM))

    def test_the_papers_are_taken(self):
        self.assert_taken(PAPER)
        self.assertIs(judge_clash(*CLASH, CLASH_PAPER), True)


class GivenAndKnown(Case):
    def test_the_fact_must_be_in_its_book(self):
        for line in (
                ("given", p(C)), ("given", e(A, B)), ("given", e(C, A)), ("known", q(C, Y)), ("known", q(X, C)),
                ("known", t(A)), ("given", q(C, X)), ("known", p(A)), ("given", t(X)), ("known", q(C, A)),
                ("given", ("p", (A, A))), ("given", ("e", (A,))), ("given", ("p", ())), ("given", ("s", (A,))),
                ("known", q(A, MADE)), ("known", t(C))):
            self.assert_not_taken([line] + [("given", p(A))] + PAPER[-1:])
            for at in range(len(PAPER)):
                self.assert_not_taken(PAPER[:at] + [line] + PAPER[at:])
            self.assert_not_taken(PAPER[:8] + [line] + PAPER[8:])

    def test_facts_of_the_books_may_be_told_anywhere(self):
        for line in (("given", p(B)), ("given", e(B, B)), ("known", t(X)), ("known", q(A, X)), ("given", p(A))):
            self.assert_taken(PAPER[:8] + [line] + PAPER[8:])
            self.assert_taken(PAPER[:8] + [line, line] + PAPER[8:])

    def test_a_fact_by_an_equal_value_is_not_in_the_book(self):
        self.assert_not_taken(PAPER[:8] + [("known", q(A, C))] + PAPER[8:])

    def test_facts_of_other_kinds(self):
        for fact in (
                None, 0, True, "p", [], ["p", (A,)], ("p", [A]), ("p", A), ("p", ("a",)), ("p", (["a"],)), ("p",),
                (), ("p", (A,), ()), ("p", (None,)), (["p"], (A,)), ({}, (A,)), (p(A),), AlwaysEqual(),
                ("p", AlwaysEqual()), ("p", (AlwaysEqual(),)), (AlwaysEqual(), (A,)), ("p", ((AlwaysEqual(),),))):
            for kind in ("given", "known"):
                for at in (0, 8):
                    self.assert_not_taken(PAPER[:at] + [(kind, fact)] + PAPER[at:])
                self.assertIs(judge_clash(*CLASH, [(kind, fact)] + CLASH_PAPER), False)
                self.assertIs(judge_clash(*CLASH, CLASH_PAPER[:-1] + [(kind, fact)] + CLASH_PAPER[-1:]), False)

    def test_numbers_of_parts(self):
        for line in (("given",), ("given", p(A), ()), ("given", p(A), p(A)), ("known",), ("known", q(A, X), 0)):
            self.assert_not_taken(PAPER[:8] + [line] + PAPER[8:])


class Use(Case):
    def test_numbers_of_rules(self):
        for number in (
                3, 4, -1, -2, -3, 10 ** 30, None, "0", (0,), [0], 0.0, 2.0, True, False, {}, AlwaysEqual(), b"0"):
            self.assert_not_taken(with_line(4, ("use", number, (A, C), ((0, 0), (1, 0)))))
            self.assert_not_taken(with_line(5, ("use", number, (C,), ((4, 1),))))
            self.assert_not_taken(with_line(7, ("use", number, (A, MADE, X), ((4, 0), (3, 0)))))

    def test_another_rule(self):
        for at, others in ((4, (1, 2)), (5, (0, 1)), (6, (0, 2)), (7, (0, 2))):
            for number in others:
                self.assert_not_taken(with_line(at, ("use", number) + PAPER[at][2:]))

    def test_true_is_no_rule_number_where_the_rule_would_fit(self):
        self.assert_taken(with_line(7, ("use", 1, (A, MADE, X), ((4, 0), (3, 0)))))
        self.assert_not_taken(with_line(7, ("use", True, (A, MADE, X), ((4, 0), (3, 0)))))
        self.assert_not_taken(with_line(4, ("use", False, (A, C), ((0, 0), (1, 0)))))

    def test_bindings_of_other_lengths(self):
        for values in ((), (A,), (A, C, C), (A, C, A, C)):
            self.assert_not_taken(with_line(4, ("use", 0, values, ((0, 0), (1, 0)))))
        for values in ((), (C, C)):
            self.assert_not_taken(with_line(5, ("use", 2, values, ((4, 1),))))
        for values in ((A, MADE), (A, MADE, X, X), (A,)):
            self.assert_not_taken(with_line(7, ("use", 1, values, ((4, 0), (3, 0)))))

    def test_bindings_of_other_kinds(self):
        for values in ([A, C], None, 2, "ac", {0: A, 1: C}, {A: 1, C: 1}, True, AlwaysEqual(), A):
            self.assert_not_taken(with_line(4, ("use", 0, values, ((0, 0), (1, 0)))))

    def test_what_is_no_value_in_a_binding(self):
        for value in (
                None, 0, "a", ["a"], [A], (), ("A",), ("",), ("aaaaaaaaa",), ("?",), ("0.z", A), ("0.z", [A]),
                ("00.z", (A,)), ("0.z", (None,)), True, AlwaysEqual(), (AlwaysEqual(),), {}, ("a", "a")):
            self.assert_not_taken(with_line(4, ("use", 0, (value, C), ((0, 0), (1, 0)))))
            self.assert_not_taken(with_line(4, ("use", 0, (A, value), ((0, 0), (1, 0)))))
            self.assert_not_taken(with_line(7, ("use", 1, (A, value, X), ((4, 0), (3, 0)))))

    def test_values_that_are_not_equal_by_then(self):
        for values in ((B, C), (C, A), (A, A), (A, B), (X, C), (A, X), (MADE, C)):
            self.assert_not_taken(with_line(4, ("use", 0, values, ((0, 0), (1, 0)))))
        for values in ((A, X, X), (A, MADE, MADE), (A, X, MADE), (X, MADE, X), (A, z(A), X), (A, ("0.z", (C, A)), X)):
            self.assert_not_taken(with_line(7, ("use", 1, values, ((4, 0), (3, 0)))))
        self.assert_not_taken(with_line(7, ("use", 1, (A, ("1.z", (A, C)), X), ((4, 0), (3, 0)))))

    def test_values_that_are_equal_by_then(self):
        # By the line before, ?x and c are equal: also within the unknown of the fourth line.
        self.assert_taken(with_line(7, ("use", 1, (A, MADE, C), ((4, 0), (3, 0)))))
        self.assert_taken(with_line(7, ("use", 1, (A, ("0.z", (A, X)), C), ((4, 0), (3, 0)))))
        paper = PAPER[:6] + [PAPER[7], PAPER[6], PAPER[8]]
        self.assert_taken(paper)
        self.assert_not_taken(paper[:6] + [("use", 1, (A, MADE, C), ((4, 0), (3, 0)))] + paper[7:])
        self.assert_not_taken(paper[:6] + [("use", 1, (A, ("0.z", (A, X)), X), ((4, 0), (3, 0)))] + paper[7:])

    def test_a_same_rule_makes_nothing_equal_but_left_and_right(self):
        paper = PAPER[:7] + [("answer", 1, (A, C), ((4, 0), (5, 0)))]
        self.assert_not_taken(paper)
        paper = PAPER[:6] + PAPER[7:]
        self.assert_not_taken(paper)

    def test_numbers_of_places(self):
        for places in ((), ((0, 0),), ((0, 0), (1, 0), (1, 0)), ((0, 0), (1, 0), ())):
            self.assert_not_taken(with_line(4, ("use", 0, (A, C), places)))
        for places in ((), ((4, 1), (4, 1))):
            self.assert_not_taken(with_line(5, ("use", 2, (C,), places)))

    def test_places_of_other_kinds(self):
        for places in (None, 0, True, "00", [(0, 0), (1, 0)], {0: 0}, ([0, 0], (1, 0)), ((0, 0), [1, 0]), (0, 1),
                       ((0,), (1, 0)), ((0, 0), (1,)), ((0, 0, 0), (1, 0)), ((), (1, 0)), (None, (1, 0)),
                       ("00", (1, 0)), ({}, (1, 0)), (AlwaysEqual(), (1, 0)), AlwaysEqual(),
                       ((None, 0), (1, 0)), ((0, None), (1, 0)), (("0", 0), (1, 0)), ((0, "0"), (1, 0)),
                       ((0.0, 0), (1, 0)), ((0, 0.0), (1, 0)), (((0,), 0), (1, 0)), ((0, [0]), (1, 0)),
                       ((AlwaysEqual(), 0), (1, 0)), ((0, AlwaysEqual()), (1, 0))):
            self.assert_not_taken(with_line(4, ("use", 0, (A, C), places)))

    def test_true_and_false_in_places(self):
        for places in (((False, 0), (1, 0)), ((0, False), (1, 0)), ((0, 0), (True, 0)), ((0, 0), (1, False))):
            self.assert_not_taken(with_line(4, ("use", 0, (A, C), places)))
        self.assert_not_taken(with_line(5, ("use", 2, (C,), ((4, True),))))

    def test_lines_that_are_not_earlier(self):
        self.assert_taken(with_line(5, ("use", 2, (C,), ((4, 1),))))
        for line in (5, 6, 7, 8, 9, 100, 10 ** 30, -1, -2, -4, -5):
            self.assert_not_taken(with_line(5, ("use", 2, (C,), ((line, 1),))))
            self.assert_not_taken(with_line(5, ("use", 2, (C,), ((line, 0),))))
        self.assert_not_taken([PAPER[1], PAPER[4], PAPER[0]] + PAPER[2:])
        self.assert_not_taken([("use", 0, (A, C), ((1, 0), (2, 0)))] + PAPER[:2] + [("answer", 0, (C, A), ((0, 0),))])

    def test_a_line_does_not_show_itself(self):
        told = ({"source": {}, "target": {"t": 1}, "rules": (("make", (("t", ("x",)),), (("t", ("x",)),)),)}, (), ())
        question = ((("x",), (("t", ("x",)),)),)
        last = ("answer", 0, (A,), ((0, 0),))
        self.assert_not_taken([("use", 0, (A,), ((0, 0),)), last], (A,), told, question)
        self.assert_not_taken([last], (A,), told, question)
        told = (told[0], (), (t(A),))
        self.assert_taken([("known", t(A)), ("use", 0, (A,), ((0, 0),)), last], (A,), told, question)

    def test_an_index_beyond_the_facts_of_a_line(self):
        for index in (1, 2, 10 ** 30, -1, -2):
            self.assert_not_taken(with_line(4, ("use", 0, (A, C), ((0, index), (1, 0)))))
            self.assert_not_taken(with_line(4, ("use", 0, (A, C), ((0, 0), (1, index)))))
        for index in (0, 2, 3, -1, -2):
            self.assert_not_taken(with_line(5, ("use", 2, (C,), ((4, index),))))

    def test_a_use_of_a_same_rule_has_no_facts(self):
        for index in (0, 1, -1):
            self.assert_not_taken(with_line(7, ("use", 1, (A, MADE, X), ((6, index), (3, 0)))))

    def test_a_fact_of_another_relation(self):
        program = {"source": {"p": 1}, "target": {"q": 1, "t": 1}, "rules": (
            ("make", (("q", ("x",)),), (("t", ("x",)),)),)}
        told = (program, (p(A),), (("q", (A,)),))
        question = ((("x",), (("t", ("x",)),)),)
        last = ("answer", 0, (A,), ((2, 0),))
        begin = [("given", p(A)), ("known", ("q", (A,)))]
        self.assert_taken(begin + [("use", 0, (A,), ((1, 0),)), last], (A,), told, question)
        self.assert_not_taken(begin + [("use", 0, (A,), ((0, 0),)), last], (A,), told, question)
        self.assert_not_taken(
            begin + [("use", 0, (A,), ((1, 0),)), ("answer", 0, (A,), ((1, 0),))], (A,), told, question)
        self.assert_not_taken(
            begin + [("use", 0, (A,), ((1, 0),)), ("answer", 0, (A,), ((0, 0),))], (A,), told, question)

    def test_facts_of_the_head_in_their_order(self):
        rules = (("make", (("p", ("y",)),), (("t", ("z",)), ("q", ("y", "z")), ("t", (B,)), ("q", ("w", "y")))),)
        told = ({"source": {"p": 1}, "target": {"q": 2, "t": 1}, "rules": rules}, (p(A),), ())
        begin = [("given", p(A)), ("use", 0, (A,), ((0, 0),))]
        made = ("0.w", (A,))
        facts = [t(z(A)), q(A, z(A)), t(B), q(made, A)]
        for index, fact in enumerate(facts):
            for at, other in enumerate(facts):
                slots = ("x",) if other[0] == "t" else ("x", "y")
                question = (((C,), ((other[0], slots),)),)
                paper = begin + [("answer", 0, other[1], ((1, index),))]
                self.assertIs(judge_answer(*told, question, (C,), paper), index == at)

    def test_constants_of_bodies(self):
        rules = (("make", (("e", (A, "x")),), (("t", ("x",)),)),)
        told = ({"source": {"e": 2}, "target": {"t": 1}, "rules": rules}, book(e(A, C), e(B, C)), ())
        question = ((("x",), (("t", ("x",)),)),)
        last = [("use", 0, (C,), ((0, 0),)), ("answer", 0, (C,), ((1, 0),))]
        self.assert_taken([("given", e(A, C))] + last, (C,), told, question)
        self.assert_not_taken([("given", e(B, C))] + last, (C,), told, question)

    def test_numbers_of_parts(self):
        for line in (
                ("use",), ("use", 0), ("use", 0, (A, C)), ("use", 0, (A, C), ((0, 0), (1, 0)), ()),
                ["use", 0, (A, C), ((0, 0), (1, 0))]):
            self.assert_not_taken(with_line(4, line))
            self.assert_not_taken(PAPER[:8] + [line] + PAPER[8:])


class LastLine(Case):
    def test_another_kind_or_none(self):
        self.assert_not_taken(PAPER[:-1])
        self.assert_not_taken([])
        for line in (
                ("clash",), ("given", p(A)), ("known", t(X)), PAPER[4], ("answer",), ("use",), None, "answer", (), [],
                ("Answer", 1, (A, C), ((4, 0), (5, 0))), (None, 1, (A, C), ((4, 0), (5, 0))),
                (AlwaysEqual(), 1, (A, C), ((4, 0), (5, 0))), ["answer", 1, (A, C), ((4, 0), (5, 0))],
                ("answer", 1, (A, C)), ("answer", 1, (A, C), ((4, 0), (5, 0)), ()), (b"answer",) + PAPER[8][1:]):
            self.assert_not_taken(PAPER[:-1] + [line])
            self.assert_not_taken(PAPER + [line])

    def test_a_last_line_stands_last_only(self):
        self.assert_not_taken(PAPER + PAPER[-1:])
        self.assert_not_taken(PAPER[-1:] + PAPER)
        self.assert_not_taken(PAPER[:8] + [("clash",)] + PAPER[8:])
        self.assert_not_taken(PAPER + [("given", p(A))])
        self.assertIs(judge_clash(*CLASH, CLASH_PAPER + [("clash",)]), False)

    def test_numbers_of_clauses(self):
        for clause in (0, 2, 3, -1, -2, None, "1", 1.0, (1,), True, False, AlwaysEqual(), 10 ** 30):
            self.assert_not_taken(with_line(8, ("answer", clause, (A, C), ((4, 0), (5, 0)))))

    def test_the_clause_counts(self):
        paper = PAPER[:8] + [("answer", 0, (C, C), ((5, 0), (4, 1)))]
        self.assert_not_taken(paper, (C, A))
        self.assert_taken(paper, (C, C))
        self.assert_not_taken(PAPER[:8] + [("answer", False, (C, C), ((5, 0), (4, 1)))], (C, C))
        self.assert_not_taken(PAPER[:8] + [("answer", 1, (C, C), ((5, 0), (4, 1)))], (C, C))

    def test_bindings(self):
        for values in (
                (), (A,), (A, C, C), [A, C], None, (A, None), ("a", "c"), (A, ["c"]), (C, A), (A, A), (A, Y),
                (A, ("C",)), AlwaysEqual(), (AlwaysEqual(), C), True, {A: 0, C: 0}):
            self.assert_not_taken(with_line(8, ("answer", 1, values, ((4, 0), (5, 0)))))
        for values in ((A, C), (A, X), (A, MADE), (A, ("0.z", (A, X)))):
            self.assert_taken(with_line(8, ("answer", 1, values, ((4, 0), (5, 0)))))

    def test_places(self):
        for places in (
                (), ((4, 0),), ((4, 0), (5, 0), (5, 0)), ((4, 1), (5, 0)), ((4, 0), (4, 0)), ((5, 0), (4, 0)),
                ((8, 0), (5, 0)), ((9, 0), (5, 0)), ((-5, 0), (5, 0)), ((4, 0), (5, 1)), ((4, -2), (5, 0)),
                ((4, 0), (5, -1)), ((4, 0), (6, 0)), ((4, 0), (5, False)), ((4, False), (5, 0)), [(4, 0), (5, 0)],
                ([4, 0], (5, 0)), ((4, 0), [5, 0]), None, 4, ((4, 0), None), ((4, 0), 5), AlwaysEqual(), ((4,), (5, 0))):
            self.assert_not_taken(with_line(8, ("answer", 1, (A, C), places)))
        self.assert_taken(with_line(8, ("answer", 1, (A, C), ((3, 0), (5, 0)))))

    def test_another_answer(self):
        for answer in ((A, A), (C, A), (C, C), (A, B), (B, C)):
            self.assert_not_taken(PAPER, answer)

    def test_an_answer_of_another_length(self):
        for answer in ((), (A,), (A, C, C), (A, C, A, C), (C,)):
            self.assert_not_taken(PAPER, answer)

    def test_an_answer_with_an_unknown(self):
        for answer in ((A, X), (A, MADE), (A, ("0.z", (A, X))), (X, C)):
            self.assert_not_taken(PAPER, answer)
        told = (PROGRAM, (), book(q(A, X)))
        question = ((("y",), (("q", ("x", "y")),)),)
        paper = [("known", q(A, X)), ("answer", 0, (A, X), ((0, 0),))]
        self.assert_not_taken(paper, (X,), told, question)
        self.assert_not_taken(paper, (A,), told, question)

    def test_an_answer_of_another_kind(self):
        for answer in (
                None, 0, True, "ac", [A, C], {A: 0, C: 0}, {0: A, 1: C}, ("a", "c"), (["a"], ["c"]), (A, None), A,
                (A, ("C",)), (A, ("c", ())), AlwaysEqual(), (A, AlwaysEqual()), (A, (AlwaysEqual(),)), (A, (0,)),
                (A, ()), ((A,), (C,)), object(), len, (A, True), ((), ())):
            self.assert_not_taken(PAPER, answer)

    def test_a_constant_among_the_slots_is_its_own_value(self):
        told = (PROGRAM, (), book(t(A)))
        question = ((("x", C, "x"), (("t", ("x",)),)),)
        paper = [("known", t(A)), ("answer", 0, (A,), ((0, 0),))]
        self.assert_taken(paper, (A, C, A), told, question)
        for answer in ((A, A, A), (A, C, C), (C, C, A), (A, B, A), (A, C), (A, X, A)):
            self.assert_not_taken(paper, answer, told, question)

    def test_no_slots(self):
        told = (PROGRAM, (), book(t(A)))
        question = (((), (("t", ("x",)),)),)
        paper = [("known", t(A)), ("answer", 0, (A,), ((0, 0),))]
        self.assert_taken(paper, (), told, question)
        for answer in ((A,), [], None, "", {}, 0, False):
            self.assert_not_taken(paper, answer, told, question)

    def test_constants_of_the_body_of_a_clause(self):
        question = ((("x",), (("q", ("x", C)),)),)
        self.assert_taken(PAPER[:8] + [("answer", 0, (A,), ((4, 0),))], (A,), TOLD, question)
        self.assert_not_taken(PAPER[:6] + [("answer", 0, (A,), ((4, 0),))], (A,), TOLD, question)


class Clash(Case):
    def assert_clash(self, paper, expected):
        self.assertIs(judge_clash(*CLASH, paper), expected, paper)

    def test_there_must_be_a_clash(self):
        self.assert_clash(CLASH_PAPER, True)
        for at in range(6):
            self.assert_clash(CLASH_PAPER[:at] + CLASH_PAPER[-1:], False)
        self.assert_clash(CLASH_PAPER[:-1], False)
        self.assert_clash(CLASH_PAPER[-1:], False)
        self.assertIs(judge_clash(*TOLD, PAPER[:8] + [("clash",)]), False)

    def test_each_line_must_be_right(self):
        for at in range(6):
            for other in range(6):
                if at != other:
                    self.assert_clash(CLASH_PAPER[:at] + [CLASH_PAPER[other]] + CLASH_PAPER[at + 1:], False)

    def test_a_last_line_of_another_kind(self):
        for line in (
                ("answer", 0, (B, B), ((4, 0), (3, 1))), "clash", ["clash"], ("clash", ()), ("clash", None), (), None,
                True, ("Clash",), (AlwaysEqual(),), ({},), (["clash"],), ("given", p(A)), ("use",), ("clash",) * 2):
            self.assert_clash(CLASH_PAPER[:-1] + [line], False)
            self.assert_clash(CLASH_PAPER + [line], False)

    def test_an_answer_paper_is_none_for_a_clash_and_the_other_way_round(self):
        self.assertIs(judge_clash(*TOLD, PAPER), False)
        for answer in ((B, B), (A, B), (), None):
            self.assert_not_taken(CLASH_PAPER, answer, CLASH)

    def test_lines_after_the_clash(self):
        self.assert_clash(CLASH_PAPER[:-1] + [("use", 2, (C,), ((3, 1),)), ("clash",)], True)
        self.assert_clash(CLASH_PAPER[:-1] + [("use", 2, (A,), ((3, 1),)), ("clash",)], False)

    def test_the_answer_of_a_paper_with_a_clash_in_it(self):
        # The judge looks at the lines alone: by then b and c are equal, and there is no target.
        paper = CLASH_PAPER[:-1] + [("answer", 1, (B, B), ((4, 0), (4, 0)))]
        self.assert_taken(paper, (B, B), CLASH)
        self.assert_taken(paper, (C, B), CLASH)
        self.assert_not_taken(paper, (A, B), CLASH)

    def test_a_clash_by_closure(self):
        # t(x) -> u(x, z) and u(x, y), w(x, v) -> y = v and q(x, y), q(x, v) -> y = v
        rules = (
            ("make", (("t", ("x",)),), (("u", ("x", "z")),)),
            ("same", (("u", ("x", "y")), ("w", ("x", "v"))), "y", "v"),
            ("same", (("q", ("x", "y")), ("q", ("x", "v"))), "y", "v"))
        program = {"source": {}, "target": {"q": 2, "t": 1, "u": 2, "w": 2}, "rules": rules}
        known = book(t(A), t(X), ("w", (A, B)), ("w", (X, C)), q(B, A), q(B, X))
        paper = [
            ("known", t(A)), ("known", t(X)), ("use", 0, (A,), ((0, 0),)), ("use", 0, (X,), ((1, 0),)),
            ("known", ("w", (A, B))), ("known", ("w", (X, C))),
            ("use", 1, (A, z(A), B), ((2, 0), (4, 0))), ("use", 1, (X, z(X), C), ((3, 0), (5, 0))),
            ("known", q(B, A)), ("known", q(B, X)), ("use", 2, (B, A, X), ((8, 0), (9, 0))), ("clash",)]
        self.assertIs(judge_clash(program, (), known, paper), True)
        self.assertIs(judge_clash(program, (), known, paper[:-2] + paper[-1:]), False)
        self.assertIs(judge_clash(program, (), known, clash_paper(program, (), known)), True)


class NoPapers(Case):
    def test_any_other_kind_of_value(self):
        for value in NO_PAPERS + [AlwaysEqual(), [AlwaysEqual()], [AlwaysEqual(), ("clash",)], [(AlwaysEqual(),)]]:
            self.assertIs(judge_answer(*TOLD, QUESTION, ANSWER, value), False)
            self.assertIs(judge_clash(*CLASH, value), False)
            self.assertIs(judge_clash(*TOLD, value), False)

    def test_any_other_kind_of_line(self):
        lines = NO_PAPERS + [AlwaysEqual(), (AlwaysEqual(),), (AlwaysEqual(), p(A)), ("given", AlwaysEqual())]
        for value in lines:
            if value != ("clash",):
                self.assert_not_taken(PAPER[:8] + [value] + PAPER[8:])
                self.assert_not_taken([value] + PAPER)
                self.assertIs(judge_clash(*CLASH, CLASH_PAPER[:6] + [value] + CLASH_PAPER[6:]), False)
                self.assertIs(judge_clash(*CLASH, CLASH_PAPER[:6] + [value]), False)

    def test_a_tuple_of_right_lines(self):
        self.assert_not_taken(tuple(PAPER))
        self.assertIs(judge_clash(*CLASH, tuple(CLASH_PAPER)), False)
        self.assert_not_taken(dict(enumerate(PAPER)))

    def test_lines_that_are_lists(self):
        for at in range(len(PAPER)):
            self.assert_not_taken(with_line(at, list(PAPER[at])))
        for at in range(len(CLASH_PAPER)):
            paper = CLASH_PAPER[:at] + [list(CLASH_PAPER[at])] + CLASH_PAPER[at + 1:]
            self.assertIs(judge_clash(*CLASH, paper), False)

    def test_lists_in_the_place_of_tuples_anywhere(self):
        def replaced(value, way):
            if not way:
                return list(value)
            return tuple([replaced(part, way[1:]) if at == way[0] else part for at, part in enumerate(value)])

        def ways(value):
            yield ()
            for at, part in enumerate(value):
                if isinstance(part, tuple):
                    for way in ways(part):
                        yield (at,) + way

        many = 0
        for at, line in enumerate(PAPER):
            for way in ways(line):
                many += 1
                self.assert_not_taken(with_line(at, replaced(line, way)))
        self.assertGreater(many, 50)

    def test_a_paper_that_contains_itself(self):
        paper = []
        paper.append(paper)
        self.assert_not_taken(paper)
        self.assertIs(judge_clash(*CLASH, paper), False)

    def test_a_fact_or_a_binding_deeper_than_calls_may_nest(self):
        deep, no_value = A, ("A",)
        for _ in range(5000):
            deep, no_value = z(deep), z(no_value)
        for value in (deep, no_value):
            self.assert_not_taken(PAPER[:8] + [("known", t(value))] + PAPER[8:])
            self.assert_not_taken(with_line(7, ("use", 1, (A, value, X), ((4, 0), (3, 0)))))


class RightPapers(Case):
    def test_more_lines_than_are_needed(self):
        further = [
            ("given", p(B)), ("given", e(B, B)), ("given", p(A)), ("known", t(X)), ("known", t(X)),
            ("use", 2, (C,), ((4, 1),)), ("use", 2, (X,), ((4, 1),)), ("use", 1, (A, C, C), ((4, 0), (4, 0))),
            ("use", 0, (A, C), ((0, 0), (1, 0))), ("use", 1, (C, C, C), ((5, 0), (5, 0)))]
        for line in further:
            self.assert_taken(PAPER[:8] + [line] + PAPER[8:])
        self.assert_taken(PAPER[:8] + further + PAPER[8:])
        self.assertIs(judge_clash(*CLASH, CLASH_PAPER[:6] + [("given", p(A))] + CLASH_PAPER[6:]), True)

    def test_lines_in_another_order(self):
        paper = [PAPER[1], PAPER[3], PAPER[0], PAPER[2]] + [
            ("use", 0, (A, C), ((2, 0), (0, 0))),
            ("use", 1, (A, MADE, X), ((4, 0), (1, 0))),
            ("use", 2, (C,), ((4, 1),)),
            ("use", 1, (C, MADE, C), ((3, 0), (6, 0))),
            ("answer", 1, (A, MADE), ((1, 0), (6, 0)))]
        self.assert_taken(paper)


class AnswerPapers(Case):
    def test_the_example_of_the_document(self):
        program = {"source": {"p": 1}, "target": {"q": 2}, "rules": (
            ("make", (("p", ("x",)),), (("q", ("x", "z")),)),)}
        question = ((("x",), (("q", ("x", "y")),)),)
        told = (program, (p(A),), ())
        paper = [
            ("given", ("p", (("a",),))), ("use", 0, (("a",),), ((0, 0),)),
            ("answer", 0, (("a",), ("0.z", (("a",),))), ((1, 0),))]
        self.assert_taken(paper, (A,), told, question)
        self.assertEqual(answer_paper(*told, question, (A,)), paper)
        self.assertIsNone(answer_paper(*told, question, (B,)))
        self.assertIsNone(clash_paper(*told))

    def assert_papers(self, told, question, answers_taken, answers_not_taken):
        for answer in answers_taken:
            paper = answer_paper(*told, question, answer)
            self.assertIs(type(paper), list)
            self.assert_taken(paper, answer, told, question)
            for other in answers_not_taken:
                self.assert_not_taken(paper, other, told, question)
        for answer in answers_not_taken:
            self.assertIsNone(answer_paper(*told, question, answer), answer)
        self.assertIsNone(clash_paper(*told))

    def test_rules_that_need_equal_values(self):
        self.assert_papers(TOLD, QUESTION, [(C, C), (A, C), (B, B), (B, C)], [(A, A), (A, B), (C, B)])

    def test_known_facts(self):
        told = (PROGRAM, (), book(t(A), q(B, C), q(X, B)))
        question = ((("x",), (("q", ("y", "x")),)),)
        self.assert_papers(told, question, [(C,), (B,), (A,)], [(("d",),)])

    def test_several_clauses(self):
        told = (PROGRAM, (), book(q(A, B), q(C, X)))
        question = (
            (("x",), (("q", ("x", "x")),)), (("x",), (("q", ("x", "y")), ("t", ("y",)))),
            (("y",), (("q", ("x", "y")),)), (("x",), (("q", ("x", "y")),)))
        self.assert_papers(told, question, [(A,), (B,), (C,)], [])
        self.assertEqual(answer_paper(*told, question, (B,))[-1][:2], ("answer", 2))
        self.assertEqual(answer_paper(*told, question, (C,))[-1][:2], ("answer", 3))

    def test_constants_in_slots_and_bodies(self):
        told = (PROGRAM, (), book(q(A, B), q(B, A)))
        question = ((("x", C, "x"), (("q", ("x", B)),)),)
        self.assert_papers(told, question, [(A, C, A)], [(B, C, B), (A, B, A), (A, C, B), (B, C, A), (A, A, A)])

    def test_no_slots(self):
        question = (((), (("t", ("x",)), ("q", ("x", "x")))),)
        told = (PROGRAM, (), book(t(X)))
        self.assert_papers(told, question, [()], [])
        self.assertIsNone(answer_paper(PROGRAM, (), book(q(X, X)), question, ()))

    def test_an_answer_of_another_length(self):
        for answer in ((), (A,), (A, C, C)):
            self.assertIsNone(answer_paper(*TOLD, QUESTION, answer))

    def test_an_answer_with_an_unknown_has_no_paper_that_is_taken(self):
        told = (PROGRAM, book(p(A), e(A, B)), book(q(C, X)))
        question = ((("y",), (("q", ("x", "y")),)),)
        for answer in ((X,), (("0.z", (A, B)),), (Y,)):
            self.assertIsNone(answer_paper(*told, question, answer))

    def test_the_answer_by_another_name_is_none(self):
        # In the outcome ?x is c.
        self.assertIsNone(answer_paper(*TOLD, QUESTION, (A, X)))

    def test_where_the_outcome_is_a_clash(self):
        for answer in ((A, B), (C, C), (), (A,)):
            paper = answer_paper(*CLASH, QUESTION, answer)
            self.assertEqual(paper[-1], ("clash",))
            self.assertIs(judge_clash(*CLASH, paper), True)
            self.assert_not_taken(paper, answer, CLASH)

    def test_values_of_the_books_in_the_lines(self):
        paper = answer_paper(*TOLD, QUESTION, ANSWER)
        given = len(TOLD[1])
        self.assertEqual(paper[:given], [("given", fact) for fact in TOLD[1]])
        self.assertEqual(paper[given:given + len(TOLD[2])], [("known", fact) for fact in TOLD[2]])


class ClashPapers(Case):
    def test_the_clash_of_the_document(self):
        rules = (
            ("same", (("q", ("x", "y")), ("q", ("v", "y"))), "x", "v"),
            ("make", (("p", ("x",)), ("r", ("v",))), (("q", ("x", "w")), ("q", ("v", "w")))))
        program = {"source": {"p": 1, "r": 1}, "target": {"q": 2}, "rules": rules}
        told = (program, (p(A), ("r", (B,))), ())
        paper = clash_paper(*told)
        self.assertIs(type(paper), list)
        self.assertEqual(paper, Chase(*told).lines() + [
            ("use", 1, (A, B), ((0, 0), (1, 0))),
            ("use", 0, (A, ("1.w", (A, B)), B), ((2, 0), (2, 1))), ("clash",)])
        self.assertIs(judge_clash(*told, paper), True)
        self.assertIsNone(clash_paper(program, (p(A), ("r", (A,))), ()))
        self.assertIs(judge_clash(program, (p(A), ("r", (A,))), (), paper), False)

    def test_papers_are_taken(self):
        paper = clash_paper(*CLASH)
        self.assertIs(judge_clash(*CLASH, paper), True)
        self.assertIs(judge_clash(*TOLD, paper), False)
        self.assert_not_taken(paper)

    def test_no_clash(self):
        for told in (TOLD, (PROGRAM, (), ()), (PROGRAM, book(p(A), p(B)), book(q(A, X), q(A, Y)))):
            self.assertIsNone(clash_paper(*told))


class Unchanged(Case):
    def test_nothing_is_changed(self):
        told = copy.deepcopy((TOLD, QUESTION, ANSWER, PAPER, CLASH, CLASH_PAPER))
        judge_answer(*TOLD, QUESTION, ANSWER, PAPER)
        judge_answer(*TOLD, QUESTION, ANSWER, PAPER[:3])
        judge_clash(*CLASH, CLASH_PAPER)
        answer_paper(*TOLD, QUESTION, ANSWER)
        clash_paper(*CLASH)
        self.assertEqual((TOLD, QUESTION, ANSWER, PAPER, CLASH, CLASH_PAPER), told)

    def test_a_paper_may_be_changed_by_the_caller(self):
        paper = answer_paper(*TOLD, QUESTION, ANSWER)
        kept = list(paper)
        paper.clear()
        self.assertEqual(answer_paper(*TOLD, QUESTION, ANSWER), kept)
        paper = clash_paper(*CLASH)
        kept = list(paper)
        paper.clear()
        self.assertEqual(clash_paper(*CLASH), kept)

    def test_the_judge_keeps_nothing(self):
        for _ in range(3):
            self.assert_taken(PAPER)
            self.assert_not_taken(PAPER[:7] + PAPER[8:])


CHANCE_QUESTIONS = (
    ((("x",), (("t0", ("x", "y")),)), (("y",), (("t1", ("x", "y")), ("t2", ("x",))))),
    ((("x", "y"), (("t0", ("x", "y")), ("t2", ("y",)))), (("y", ("a",)), (("t1", ("y", ("b",))),))),
    (((), (("t0", ("x", "x")),)), ((), (("t1", ("x", "y")), ("t1", ("y", "x"))))),
)


def changed(chance, value, values):
    """A tuple or a list with one part, at any depth, that is another one."""
    if isinstance(value, int):
        return value + chance.choice([-1, 1])
    if not isinstance(value, (tuple, list)) or value in values or len(value) == 0:
        return chance.choice(values)
    at = chance.randrange(len(value))
    parts = list(value)
    parts[at] = changed(chance, parts[at], values)
    return tuple(parts) if isinstance(value, tuple) else parts


class Chance(Case):
    def every_answer(self, many):
        out = [()]
        for _ in range(many):
            out = [row + (value,) for row in out for value in CONSTANTS]
        return out

    def test_papers_for_what_holds_and_for_nothing_else(self):
        chance = random.Random(23)
        found = {"clash": 0, True: 0, False: 0}
        for _ in range(300):
            told = some_case(chance)
            kind, facts = chased(*told)
            for question in CHANCE_QUESTIONS:
                right = answers(question, facts) if kind == "target" else ()
                for answer in self.every_answer(len(question[0][0])):
                    paper = answer_paper(*told, question, answer)
                    if kind == "clash":
                        found["clash"] += 1
                        self.assertIs(judge_clash(*told, paper), True)
                        self.assertEqual(paper, clash_paper(*told))
                    else:
                        found[answer in right] += 1
                        self.assertEqual(paper is not None, answer in right)
                        self.assertTrue(paper is None or judge_answer(*told, question, answer, paper))
            self.assertIs(clash_paper(*told) is None, kind == "target")
        self.assertGreater(min(found.values()), 30)

    def test_what_the_judge_takes_is_true(self):
        chance = random.Random(22)
        taken = {True: 0, False: 0}
        for _ in range(250):
            told = some_case(chance)
            kind, facts = chased(*told)
            if kind == "clash":
                continue
            for question in CHANCE_QUESTIONS:
                right = answers(question, facts)
                constant = sorted(answer for answer in right if all(is_constant(value) for value in answer))
                every = self.every_answer(len(question[0][0]))
                for answer in constant[:3]:
                    paper = answer_paper(*told, question, answer)
                    values = [value for line in paper if line[0] in ("given", "known") for value in line[1][1]]
                    values += [value for line in paper if line[0] in ("use", "answer") for value in line[2]]
                    for _ in range(12):
                        at = chance.choice([chance.randrange(len(paper)), len(paper) - 1])
                        other = paper[:at] + [changed(chance, paper[at], values)] + paper[at + 1:]
                        for claim in every if len(every) < 10 else [answer]:
                            is_taken = judge_answer(*told, question, claim, other)
                            self.assertTrue(claim in right or not is_taken)
                            taken[is_taken] += 1
                        self.assertIs(judge_clash(*told, other), False)
                        self.assertIs(judge_clash(*told, other[:-1] + [("clash",)]), False)
        self.assertGreater(min(taken.values()), 100, taken)


class Large(Case):
    def test_long_papers(self):
        names = [(f"n{at}",) for at in range(200)]
        told = (PROGRAM, book(*[p(name) for name in names], *[e(name, name) for name in names]), ())
        begin = time.process_time()
        answer = (names[150], names[150])
        paper = answer_paper(*told, QUESTION, answer)
        self.assert_taken(paper, answer, told)
        self.assertLess(time.process_time() - begin, 10)


if __name__ == "__main__":
    unittest.main()
