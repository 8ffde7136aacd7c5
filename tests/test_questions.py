"""Points [1], [35] and [36]: the answers of a question, and the certain ones."""

import copy
import pathlib
import random
import sys
import time
import unittest

sys.path.insert(0, str(pathlib.Path(__file__).resolve().parent))

import naive
from everytarget.chase import chased
from everytarget.papers import answer_paper, judge_answer
from everytarget.questions import answers, certain, is_answer
from everytarget.values import is_question

A = ("a",)
B = ("b",)
C = ("c",)
X = ("?x",)
Y = ("?y",)
MADE = ("0.z", (A,))


def q(one, other):
    return ("q", (one, other))


def t(value):
    return ("t", (value,))


def book(*facts):
    return tuple(sorted(facts))


PROGRAM = {"source": {"p": 1}, "target": {"q": 2, "t": 1, "u": 3}, "rules": ()}


class Case(unittest.TestCase):
    def assert_answers(self, question, facts, found):
        told = book(*facts)
        self.assertTrue(is_question(question, PROGRAM))
        self.assertEqual(answers(question, told), found)
        self.assertEqual(certain(question, told), [answer for answer in found if all(map(naive.is_constant, answer))])
        for answer in found:
            self.assertIs(is_answer(question, told, answer), True)


class Answers(Case):
    def test_the_example_of_the_document(self):
        question = ((("x",), (("b", ("x", "y")),)),)
        told = (("b", (("c",), ("0.z", (("c",),)))),)
        self.assertEqual(answers(question, told), [(("c",),)])
        self.assertEqual(certain(question, told), [(("c",),)])
        self.assertIs(is_answer(question, told, (("c",),)), True)

    def test_the_values_of_the_slots(self):
        question = ((("y", "x"), (("q", ("x", "y")),)),)
        self.assert_answers(question, [q(A, B), q(B, C)], [(B, A), (C, B)])

    def test_ascending_as_tuples(self):
        question = ((("x", "y"), (("q", ("x", "y")),)),)
        facts = [q(MADE, A), q(C, A), q(X, B), q(B, C), q(("10",), A), q(("1",), C), q(B, MADE), q(B, X), q(("b1",), A)]
        found = [
            (MADE, A), (("1",), C), (("10",), A), (X, B), (B, MADE), (B, X), (B, C), (("b1",), A), (C, A)]
        self.assertEqual(found, sorted(found))
        self.assert_answers(question, facts, found)

    def test_each_once(self):
        question = ((("x",), (("q", ("x", "y")),)),)
        self.assert_answers(question, [q(A, B), q(A, C), q(A, X), q(B, A), q(B, MADE)], [(A,), (B,)])

    def test_several_clauses(self):
        question = ((("x",), (("q", ("x", "y")),)), (("y",), (("q", ("x", "y")),)), (("x",), (("t", ("x",)),)))
        self.assert_answers(question, [q(A, B), q(B, C), t(A), t(X)], [(X,), (A,), (B,), (C,)])
        self.assert_answers(question, [q(A, A), t(A)], [(A,)])
        self.assert_answers(question, [t(B)], [(B,)])

    def test_constants_as_slots(self):
        question = (((C, "x", ("9",)), (("t", ("x",)),)),)
        self.assert_answers(question, [t(A), t(X)], [(C, X, ("9",)), (C, A, ("9",))])
        self.assert_answers((((A,), (("t", (B,)),)),), [t(B)], [(A,)])
        self.assert_answers((((A,), (("t", (B,)),)),), [t(A), t(C)], [])

    def test_doubled_variables_as_slots(self):
        question = ((("x", "y", "x", "x"), (("q", ("x", "y")),)),)
        self.assert_answers(question, [q(A, B), q(X, A)], [(X, A, X, X), (A, B, A, A)])

    def test_no_slots(self):
        question = (((), (("q", ("x", "x")),)), ((), (("t", ("x",)),)))
        self.assert_answers(question, [q(A, B)], [])
        self.assert_answers(question, [q(A, A)], [()])
        self.assert_answers(question, [q(A, A), q(X, X), t(B)], [()])
        self.assert_answers(question, [t(MADE)], [()])

    def test_no_match(self):
        question = ((("x",), (("q", ("x", "y")), ("t", ("y",)))),)
        self.assert_answers(question, [], [])
        self.assert_answers(question, [q(A, B), t(C)], [])
        self.assert_answers(question, [q(A, X), t(Y)], [])
        self.assert_answers(question, [q(A, B), t(B)], [(A,)])

    def test_several_atoms_with_constants(self):
        question = ((("x", "v"), (("q", ("x", "y")), ("q", ("y", "v")), ("t", (A,)))),)
        facts = [q(A, X), q(X, B), q(B, B), q(C, Y)]
        self.assert_answers(question, facts, [])
        self.assert_answers(question, facts + [t(A)], [(X, B), (A, B), (B, B)])

    def test_deep_values(self):
        deep = A
        for _ in range(3000):
            deep = ("0.z", (deep,))
        question = ((("x", "y"), (("q", ("x", "y")),)),)
        self.assertEqual(len(answers(question, (q(A, deep), q(A, B)))), 2)
        self.assertEqual(certain(question, (q(A, deep), q(A, B))), [(A, B)])


class Certain(Case):
    def test_answers_with_unknowns_are_left_out(self):
        question = ((("x", "y"), (("q", ("x", "y")),)),)
        facts = book(q(A, B), q(A, X), q(Y, B), q(A, MADE), q(("1.z", ()), X), q(C, C))
        self.assertEqual(certain(question, facts), [(A, B), (C, C)])
        self.assertEqual(certain(question, book(q(A, X))), [])
        self.assertEqual(certain((((), (("q", ("x", "y")),)),), book(q(X, Y))), [()])
        self.assertEqual(certain((((A,), (("q", ("x", "y")),)),), book(q(X, Y))), [(A,)])

    def test_an_answer_may_rest_on_unknowns(self):
        question = ((("x", "v"), (("q", ("x", "y")), ("q", ("v", "y")))),)
        self.assertEqual(certain(question, book(q(A, X), q(B, X), q(C, Y))), [(A, A), (A, B), (B, A), (B, B), (C, C)])


class IsAnswer(Case):
    def test_another_length(self):
        question, facts = ((("x", "y"), (("q", ("x", "y")),)),), book(q(A, B), q(B, X))
        for answer in ((), (A,), (A, B, A), (A, B, B), ((A, B),)):
            self.assertIs(is_answer(question, facts, answer), False)
        self.assertIs(is_answer((((), (("t", ("x",)),)),), book(t(A)), ()), True)
        self.assertIs(is_answer((((), (("t", ("x",)),)),), book(t(A)), (A,)), False)
        self.assertIs(is_answer((((), (("t", ("x",)),)),), (), ()), False)

    def test_another_value(self):
        question, facts = ((("x", "y"), (("q", ("x", "y")),)),), book(q(A, B), q(B, X), q(C, MADE))
        for answer in ((A, B), (B, X), (C, MADE)):
            self.assertIs(is_answer(question, facts, answer), True)
        for answer in (
                (B, A), (A, A), (A, X), (B, Y), (B, B), (C, ("0.z", (B,))), (C, A), (X, B), ("a", "b"), ("x", "y"),
                (("a", ()), B), (None, None), ((), ())):
            self.assertIs(is_answer(question, facts, answer), False)

    def test_constants_as_slots(self):
        question, facts = (((C, "x"), (("t", ("x",)),)),), book(t(A))
        self.assertIs(is_answer(question, facts, (C, A)), True)
        self.assertIs(is_answer(question, facts, (A, A)), False)
        self.assertIs(is_answer(question, facts, (C, C)), False)


class Chance(Case):
    def test_against_trying_all_values(self):
        chance = random.Random(35)
        many = 0
        for _ in range(400):
            facts = naive.some_book(chance, naive.TARGET, naive.CONSTANTS[:2] + naive.FREE[:1] + [MADE], 8)
            clauses = []
            size = chance.randint(0, 3)
            while len(clauses) < chance.randint(1, 3):
                body = naive.some_atoms(chance, naive.TARGET, ["x", "y", "v"], chance.randint(1, 3))
                names = naive.variables(body) + [A]
                clauses.append((tuple([chance.choice(names) for _ in range(size)]), body))
            found = naive.answers(tuple(clauses), facts)
            self.assertEqual(answers(tuple(clauses), facts), sorted(found))
            self.assertEqual(
                certain(tuple(clauses), facts), sorted([answer for answer in found if all(map(naive.is_constant, answer))]))
            for answer in [tuple([chance.choice([A, B, X, MADE]) for _ in range(size)]) for _ in range(5)]:
                self.assertIs(is_answer(tuple(clauses), facts, answer), answer in found)
            many += len(found)
        self.assertGreater(many, 500)

    def test_certain_answers_have_papers_and_others_have_none(self):
        chance = random.Random(36)
        many = 0
        for _ in range(120):
            told = naive.some_case(chance)
            kind, facts = chased(*told)
            if kind == "target":
                question = (
                    (("x", "y"), (("t0", ("x", "y")),)), (("x", "y"), (("t1", ("y", "x")), ("t2", ("x",)))))
                sure = certain(question, facts)
                for one in naive.CONSTANTS:
                    for other in naive.CONSTANTS:
                        paper = answer_paper(*told, question, (one, other))
                        self.assertEqual(paper is not None, (one, other) in sure)
                        if paper is not None:
                            many += 1
                            self.assertIs(judge_answer(*told, question, (one, other), paper), True)
        self.assertGreater(many, 30)


class Unchanged(Case):
    def test_nothing_that_is_passed_is_changed(self):
        question, facts = ((("x", A), (("q", ("x", "y")),)),), book(q(A, B), q(B, X))
        before = copy.deepcopy((question, facts))
        found = answers(question, facts)
        certain(question, facts), is_answer(question, facts, (A, A))
        self.assertEqual((question, facts), before)
        found.clear()
        self.assertEqual(answers(question, facts), [(A, A), (B, A)])

    def test_many_facts(self):
        names = [(f"n{at}",) for at in range(1500)]
        facts = book(*[q(one, other) for one, other in zip(names, names[1:])])
        question = ((("x", "v"), (("q", ("x", "y")), ("q", ("y", "v")))),)
        begin = time.process_time()
        self.assertEqual(len(answers(question, facts)), 1498)
        self.assertIs(is_answer(question, facts, (names[0], names[2])), True)
        self.assertLess(time.process_time() - begin, 3)


if __name__ == "__main__":
    unittest.main()
