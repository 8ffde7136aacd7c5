"""Points [1], [15] to [19]: the chase, its open steps, its outcome and its lines."""

import copy
import pathlib
import random
import sys
import time
import unittest

sys.path.insert(0, str(pathlib.Path(__file__).resolve().parent))

from everytarget.chase import Chase, chased
from everytarget.classes import Classes
from everytarget.errors import NotValid, TargetError
from everytarget.papers import answer_paper, judge_answer, judge_clash
from everytarget.values import is_book, is_program
from naive import NaiveChase, all_books, answers, is_constant, keeps, some_case

A = ("a",)
B = ("b",)
C = ("c",)
X = ("?x",)
Y = ("?y",)
# p(x) -> q(x, z)
SIMPLE = ("make", (("p", ("x",)),), (("q", ("x", "z")),))
# q(x, y), q(v, y) -> x = v
KEY = ("same", (("q", ("x", "y")), ("q", ("v", "y"))), "x", "v")
# q(x, y), q(x, v) -> y = v
SINGLE = ("same", (("q", ("x", "y")), ("q", ("x", "v"))), "y", "v")
# p(x), r(v) -> q(x, w), q(v, w)
BOTH = ("make", (("p", ("x",)), ("r", ("v",))), (("q", ("x", "w")), ("q", ("v", "w"))))


def z(*values):
    return ("0.z", values)


def program(*rules):
    return {"source": {"p": 1, "r": 1, "e": 2}, "target": {"q": 2, "t": 1, "u": 3}, "rules": rules}


def p(value):
    return ("p", (value,))


def r(value):
    return ("r", (value,))


def e(one, other):
    return ("e", (one, other))


def q(one, other):
    return ("q", (one, other))


def t(value):
    return ("t", (value,))


def book(*facts):
    return tuple(sorted(facts))


def ended(*told):
    chase = Chase(*told)
    chase.run()
    return chase


class Case(unittest.TestCase):
    def assert_outcome(self, rules, source, known, outcome):
        """The outcome, by a run and by the steps one by one, first ones first and last ones first."""
        told = (program(*rules), book(*source), book(*known))
        self.assertTrue(is_program(told[0]))
        self.assertEqual(chased(*told), outcome)
        for index in (0, -1, 1):
            chase = Chase(*told)
            while chase.make(index):
                pass
            self.assertEqual(chase.outcome(), outcome)
            self.assertTrue(chase.has_ended())

    def assert_facts(self, rules, source, known, facts):
        self.assert_outcome(rules, source, known, ("target", book(*facts)))

    def assert_clash(self, rules, source, known):
        self.assert_outcome(rules, source, known, ("clash", ()))


class MakeSteps(Case):
    def test_the_example_of_the_document(self):
        self.assert_facts([SIMPLE], [p(A)], [], [q(A, z(A))])
        self.assertEqual(
            chased(program(SIMPLE), (("p", (("a",),)),), ()), ("target", (("q", (("a",), ("0.z", (("a",),)))),)))

    def test_each_match_has_its_unknown(self):
        self.assert_facts([SIMPLE], [p(A), p(B), p(C)], [], [q(A, z(A)), q(B, z(B)), q(C, z(C))])

    def test_nothing_to_begin_with(self):
        self.assert_facts([SIMPLE, KEY], [], [], [])
        self.assert_facts([], [p(A)], [], [])
        self.assert_facts([], [], [q(A, X)], [q(A, X)])
        self.assert_facts([SIMPLE], [r(A), e(A, B)], [], [])

    def test_source_facts_are_not_in_the_target_book(self):
        self.assert_facts([("make", (("p", ("x",)),), (("t", ("x",)),))], [p(A), r(B)], [], [t(A)])

    def test_a_rule_without_frontier(self):
        rule = ("make", (("p", ("x",)),), (("q", ("z", "z")),))
        self.assert_facts([rule], [p(A), p(B)], [], [q(z(), z())])
        chase = Chase(program(rule), book(p(A), p(B)), ())
        self.assertEqual(chase.open_steps(), [(0, (A,)), (0, (B,))])
        chase.make(1)
        self.assertEqual(chase.open_steps(), [])

    def test_a_rule_without_made_variables(self):
        rule = ("make", (("e", ("x", "y")),), (("q", ("y", "x")), ("t", ("y",))))
        self.assert_facts([rule], [e(A, B), e(C, B)], [], [q(B, A), q(B, C), t(B)])

    def test_several_made_variables(self):
        rule = ("make", (("e", ("y", "x")),), (("q", ("x", "v")), ("u", ("w", "y", "v")), ("t", ("w",))))
        v, w = ("0.v", (A, B)), ("0.w", (A, B))
        self.assert_facts([rule], [e(A, B)], [], [q(B, v), ("u", (w, A, v)), t(w)])

    def test_the_unknown_has_the_values_of_the_frontier_only(self):
        rule = ("make", (("e", ("x", "y")),), (("q", ("y", "z")),))
        self.assert_facts([rule], [e(A, C), e(B, C), e(A, B)], [], [q(C, z(C)), q(B, z(B))])

    def test_the_frontier_has_the_order_of_the_body(self):
        rule = ("make", (("e", ("y", "x")),), (("u", ("x", "z", "y")),))
        self.assert_facts([rule], [e(A, B)], [], [("u", (B, z(A, B), A))])

    def test_several_atoms_in_the_body(self):
        rule = ("make", (("e", ("x", "y")), ("e", ("y", "v")), ("p", ("v",))), (("u", ("x", "z", "v")),))
        self.assert_facts(
            [rule], [e(A, B), e(B, C), e(C, A), p(C), p(A)], [], [("u", (A, z(A, C), C)), ("u", (B, z(B, A), A))])

    def test_constants_in_bodies_and_heads(self):
        rule = ("make", (("e", (A, "x")),), (("q", ("x", C)), ("q", (B, "z"))))
        self.assert_facts([rule], [e(A, B), e(B, A)], [], [q(B, C), q(B, ("0.z", (B,)))])
        rule = ("make", (("p", (A,)),), (("t", (C,)),))
        self.assert_facts([rule], [p(A), p(B)], [], [t(C)])
        self.assert_facts([rule], [p(B)], [], [])
        rules = [rule, ("make", (("t", (C,)),), (("q", (C, "z")),)), ("make", (("t", (A,)),), (("q", (A, A)),))]
        self.assert_facts(rules, [p(A)], [], [t(C), q(C, ("1.z", ()))])

    def test_target_rules(self):
        rules = [
            SIMPLE,
            ("make", (("q", ("x", "y")),), (("t", ("y",)),)),
            ("make", (("t", ("x",)),), (("u", ("x", "w", "w")),))]
        w = ("2.w", (z(A),))
        self.assert_facts(rules, [p(A)], [], [q(A, z(A)), t(z(A)), ("u", (z(A), w, w))])

    def test_labels_have_the_number_of_the_rule(self):
        idle = ("make", (("r", ("x",)),), (("t", ("x",)),))
        rules = [idle] * 12 + [("make", (("p", ("x",)),), (("q", ("x", "z1")),))]
        self.assert_facts(rules, [p(A)], [], [q(A, ("12.z1", (A,)))])

    def test_two_rules_with_the_same_head_make_two_unknowns(self):
        self.assert_facts([SIMPLE, SIMPLE], [p(A)], [], [q(A, z(A)), q(A, ("1.z", (A,)))])

    def test_unknowns_three_deep(self):
        rules = [
            SIMPLE,
            ("make", (("q", ("x", "y")),), (("u", ("y", "w", "x")),)),
            ("make", (("u", ("x", "y", "v")),), (("s", ("y", "k")),))]
        told = {"source": {"p": 1}, "target": {"q": 2, "u": 3, "s": 2}, "rules": tuple(rules)}
        w = ("1.w", (A, z(A)))
        self.assertEqual(
            chased(told, (p(A),), ()),
            ("target", book(q(A, z(A)), ("u", (z(A), w, A)), ("s", (w, ("2.k", (w,)))))))

    def test_a_fact_of_the_head_that_is_there_does_not_stop_the_others(self):
        rule = ("make", (("p", ("x",)),), (("t", ("x",)), ("q", ("x", "x"))))
        self.assert_facts([rule], [p(A)], [t(A)], [t(A), q(A, A)])
        self.assert_facts([rule], [p(A)], [q(A, A)], [t(A), q(A, A)])

    def test_a_known_fact_does_not_stand_for_what_a_rule_makes(self):
        self.assert_facts([SIMPLE], [p(A)], [q(A, B)], [q(A, B), q(A, z(A))])
        self.assert_facts([SIMPLE], [p(A)], [q(A, X)], [q(A, X), q(A, z(A))])


class SameSteps(Case):
    def test_the_clash_of_the_document(self):
        self.assert_clash([KEY, BOTH], [p(A), r(B)], [])
        self.assert_clash([BOTH, KEY], [p(A), r(B)], [])
        self.assert_facts([KEY, BOTH], [p(A), r(A)], [], [q(A, ("1.w", (A, A)))])

    def test_a_made_unknown_becomes_a_constant(self):
        rules = [SIMPLE, SINGLE]
        self.assert_facts(rules, [p(A)], [q(A, B)], [q(A, B)])
        self.assert_facts(rules, [p(A)], [q(B, A)], [q(A, z(A)), q(B, A)])

    def test_two_constants(self):
        self.assert_clash([SINGLE], [], [q(A, B), q(A, C)])
        self.assert_clash([SINGLE, SIMPLE], [p(A)], [q(A, B), q(A, C)])
        self.assert_facts([SINGLE], [], [q(A, B), q(B, C)], [q(A, B), q(B, C)])

    def test_free_unknowns_become_constants(self):
        self.assert_facts([SINGLE], [], [q(A, X), q(A, B), q(X, C)], [q(A, B), q(B, C)])
        self.assert_facts([SINGLE], [], [q(A, X), q(A, B), q(X, C), q(B, Y)], [q(A, B), q(B, C)])

    def test_free_unknowns_become_one(self):
        self.assert_facts([SINGLE], [], [q(A, Y), q(A, X), t(Y)], [q(A, X), t(X)])

    def test_a_free_unknown_and_a_made_one(self):
        self.assert_facts([SIMPLE, SINGLE], [p(A)], [q(A, X), t(X)], [q(A, X), t(X)])
        rules = [SIMPLE, SINGLE, ("make", (("t", ("x",)),), (("u", ("x", "x", "v")),))]
        self.assert_facts(rules, [p(A)], [q(A, X), t(X)], [q(A, X), t(X), ("u", (X, X, ("2.v", (X,))))])

    def test_a_free_unknown_becomes_a_constant_of_two_facts(self):
        self.assert_clash([SINGLE], [], [q(A, X), q(A, B), q(C, X), q(C, A)])

    def test_values_of_made_unknowns_become_equal(self):
        rules = [("make", (("t", ("x",)),), (("u", ("x", "z", "x")),)), SINGLE]
        self.assert_facts(rules, [], [q(A, X), q(A, B), t(X), t(B)], [q(A, B), t(B), ("u", (B, z(B), B))])
        self.assert_facts(
            rules, [], [q(A, X), q(A, B), t(X), t(C)], [q(A, B), t(B), t(C), ("u", (B, z(B), B)), ("u", (C, z(C), C))])

    def test_closure_makes_facts_one(self):
        rules = [("make", (("t", ("x",)),), (("q", ("x", "z")),)), SINGLE]
        self.assert_facts(rules, [], [q(A, X), q(A, Y), t(X), t(Y)], [q(A, X), t(X), q(X, z(X))])

    def test_constants_of_rules_may_clash(self):
        rules = [("make", (("p", ("x",)),), (("q", ("x", C)),)), SINGLE]
        self.assert_clash(rules, [p(A)], [q(A, B)])
        self.assert_facts(rules, [p(A)], [q(A, X), t(X)], [q(A, C), t(C)])

    def test_a_constant_in_the_body_is_matched_by_what_equals_it(self):
        rules = [SINGLE, ("make", (("t", (B,)),), (("t", (C,)),))]
        self.assert_facts(rules, [], [t(X)], [t(X)])
        self.assert_facts(rules, [], [t(X), q(A, X)], [t(X), q(A, X)])
        self.assert_facts(rules, [], [t(X), q(A, X), q(A, B)], [t(B), t(C), q(A, B)])

    def test_left_and_right_the_same_variable(self):
        self.assert_facts([("same", (("q", ("x", "y")),), "x", "x")], [], [q(A, B)], [q(A, B)])

    def test_constants_in_the_body_of_a_same_rule(self):
        rule = ("same", (("u", ("x", "y", C)),), "x", "y")
        self.assert_clash([rule], [], [("u", (A, B, C))])
        self.assert_facts([rule], [], [("u", (A, B, A))], [("u", (A, B, A))])
        self.assert_facts([rule], [], [("u", (A, X, C))], [("u", (A, A, C))])

    def test_an_unknown_that_equals_what_stands_within_it(self):
        rules = [SIMPLE, ("make", (("q", ("x", "y")),), (("t", ("y",)),)), ("same", (("q", ("x", "y")),), "x", "y")]
        self.assert_facts(rules, [p(A)], [], [q(A, A), t(A)])

    def test_source_constants_are_parted_from_each_other(self):
        # Both sides of the clash come from the source; before it the source is matched as it is.
        rules = [SIMPLE, ("make", (("e", ("x", "y")),), (("q", ("x", "y")),)), SINGLE]
        self.assert_facts(rules, [p(A), e(A, B)], [], [q(A, B)])
        self.assert_clash(rules, [p(A), e(A, B), e(A, C)], [])


class OpenSteps(Case):
    def test_names_of_steps(self):
        rules = [("make", (("e", ("y", "x")), ("p", ("x",))), (("q", ("x", "z")),))]
        chase = Chase(program(*rules), book(e(A, B), e(C, B), p(B), e(A, A)), ())
        self.assertEqual(chase.open_steps(), [(0, (A, B)), (0, (C, B))])

    def test_forms(self):
        chase = Chase(program(SIMPLE), (p(A),), ())
        steps = chase.open_steps()
        self.assertIs(type(steps), list)
        self.assertEqual([type(step) for step in steps], [tuple])
        self.assertEqual([type(part) for part in steps[0]], [int, tuple])

    def test_a_binding_without_variables(self):
        rule = ("make", (("p", (A,)),), (("t", ("z",)),))
        chase = Chase(program(rule), (p(A),), ())
        self.assertEqual(chase.open_steps(), [(0, ())])
        self.assertIs(chase.make(0), True)
        self.assertEqual(chase.outcome(), ("target", (t(z()),)))

    def test_ascending_by_rules_and_then_by_tuples(self):
        rules = [SINGLE, ("make", (("t", ("x",)),), (("q", ("x", "z")),)), SIMPLE]
        known = book(t(A), t(X), t(("10",)), t(("9",)), q(A, B), q(A, X), q(A, Y))
        chase = Chase(program(*rules), book(p(A), p(B)), known)
        steps = chase.open_steps()
        self.assertEqual(steps, sorted(steps))
        self.assertEqual(len(steps), len(set(steps)))
        self.assertEqual([step for step in steps if step[0] > 0], [
            (1, (("10",),)), (1, (("9",),)), (1, (X,)), (1, (A,)), (2, (A,)), (2, (B,))])
        same = [binding for number, binding in steps if number == 0]
        self.assertEqual(len(same), 6)
        self.assertIn((A, X, B), same)
        self.assertNotIn((A, B, B), same)

    def test_made_unknowns_in_bindings_are_ordered_as_tuples(self):
        rules = [SIMPLE, ("make", (("q", ("x", "y")),), (("t", ("y",)),))]
        chase = Chase(program(*rules), book(p(A), p(B)), book(q(A, X), q(A, ("1",)), q(A, B)))
        chase.make(0)
        chase.make(0)
        self.assertEqual(chase.open_steps(), [
            (1, (A, z(A))), (1, (A, ("1",))), (1, (A, X)), (1, (A, B)), (1, (B, z(B)))])

    def test_only_what_changes_something(self):
        rules = [("make", (("p", ("x",)),), (("t", ("x",)),)), SINGLE]
        chase = Chase(program(*rules), book(p(A), p(B)), book(t(A), q(A, A)))
        self.assertEqual(chase.open_steps(), [(0, (B,))])

    def test_bindings_by_names(self):
        rules = [SINGLE, ("make", (("q", ("x", "y")),), (("t", ("y",)),))]
        chase = Chase(program(*rules), (), book(q(A, X), q(A, B)))
        self.assertEqual(chase.open_steps(), [(0, (A, X, B)), (0, (A, B, X)), (1, (A, X)), (1, (A, B))])
        self.assertIs(chase.make(1), True)
        self.assertEqual(chase.open_steps(), [(1, (A, B))])

    def test_a_step_that_is_named_once(self):
        # Two matches with the same names are one.
        rules = [SINGLE, ("make", (("q", ("x", "y")),), (("t", ("x",)),))]
        chase = Chase(program(*rules), (), book(q(A, X), q(A, B), q(X, X)))
        while any(number == 0 for number, _ in chase.open_steps()):
            chase.make(0)
        self.assertEqual(chase.open_steps(), [(1, (A, B)), (1, (B, B))])

    def test_none_after_a_clash(self):
        rules = [SINGLE, SIMPLE]
        chase = Chase(program(*rules), book(p(A), p(B)), book(q(A, B), q(A, C)))
        self.assertEqual(chase.open_steps(), [(0, (A, B, C)), (0, (A, C, B)), (1, (A,)), (1, (B,))])
        self.assertIs(chase.has_ended(), False)
        chase.make(0)
        self.assertEqual(chase.open_steps(), [])
        self.assertIs(chase.has_ended(), True)
        self.assertIs(chase.classes().clash(), True)
        for index in (0, 1, -1):
            self.assertIs(chase.make(index), False)
        chase.run()
        self.assertEqual(len(chase.lines()), 5)
        self.assertEqual(chase.outcome(), ("clash", ()))

    def test_asking_changes_nothing(self):
        chase = Chase(program(SIMPLE, KEY), book(p(A), p(B)), (q(A, X),))
        before = chase.open_steps()
        many = chase.classes().count()
        for _ in range(3):
            self.assertEqual(chase.open_steps(), before)
            self.assertIs(chase.has_ended(), False)
            self.assertEqual(len(chase.lines()), 3)
        self.assertEqual(chase.classes().count(), many)


class Making(Case):
    def test_the_step_with_this_index(self):
        for index in range(3):
            chase = Chase(program(SIMPLE), book(p(A), p(B), p(C)), ())
            steps = chase.open_steps()
            self.assertIs(chase.make(index), True)
            self.assertEqual(chase.lines()[-1], ("use", 0, steps[index][1], ((index, 0),)))
            self.assertEqual(chase.open_steps(), steps[:index] + steps[index + 1:])

    def test_an_index_beyond_the_steps_or_below_0(self):
        for index, value in ((3, A), (4, B), (5, C), (300, A), (-1, C), (-2, B), (-3, A), (-4, C), (10 ** 20 + 1, B)):
            chase = Chase(program(SIMPLE), book(p(A), p(B), p(C)), ())
            expected = [A, B, C][index % 3]
            self.assertIs(chase.make(index), True)
            self.assertEqual(chase.lines()[-1][2], (expected,), index)
            if index != 10 ** 20 + 1:
                self.assertEqual(expected, value)

    def test_none_open(self):
        for told in ((program(SIMPLE), (), ()), (program(), (p(A),), (t(X),)), (program(SINGLE), (), (q(A, B),))):
            chase = Chase(*told)
            lines = chase.lines()
            for index in (0, 1, -1, 7):
                self.assertIs(chase.make(index), False)
            self.assertEqual(chase.lines(), lines)
            self.assertEqual(chase.outcome(), ("target", told[2]))

    def test_until_none_is_open(self):
        chase = Chase(program(SIMPLE), book(p(A), p(B)), ())
        self.assertEqual([chase.make(5), chase.make(5), chase.make(5)], [True, True, False])

    def test_ended_or_not(self):
        chase = Chase(program(SIMPLE), (p(A),), ())
        self.assertIs(chase.has_ended(), False)
        chase.make(0)
        self.assertIs(chase.has_ended(), True)
        self.assertIs(Chase(program(SIMPLE), (), ()).has_ended(), True)

    def test_no_outcome_while_a_step_is_open(self):
        chase = Chase(program(SIMPLE, SINGLE), book(p(A), p(B)), (q(A, B),))
        for _ in range(3):
            before = (chase.lines(), chase.open_steps())
            with self.assertRaises(NotValid) as caught:
                chase.outcome()
            self.assertIsInstance(caught.exception, TargetError)
            self.assertEqual((chase.lines(), chase.open_steps()), before)
            self.assertIs(chase.make(0), True)
        self.assertEqual(chase.outcome(), ("target", book(q(A, B), q(B, z(B)))))

    def test_steps_and_a_run_may_be_mixed(self):
        told = (program(BOTH, KEY, SINGLE), book(p(A), r(A), p(B)), book(q(A, X)))
        expected = chased(*told)
        for many in range(5):
            chase = Chase(*told)
            for _ in range(many):
                chase.make(many)
            chase.run()
            chase.run()
            self.assertEqual(chase.outcome(), expected)


class Rounds(Case):
    def test_steps_are_made_in_their_turn(self):
        rules = [("make", (("t", ("x",)),), (("q", ("x", "x")),)), ("make", (("p", ("x",)),), (("t", ("x",)),))]
        chase = ended(program(*rules), book(p(A), p(B)), book(t(C)))
        # The steps of the first rule for a and b are open in the second round only.
        self.assertEqual([line[1:3] for line in chase.lines()[3:]], [
            (0, (C,)), (1, (A,)), (1, (B,)), (0, (A,)), (0, (B,))])

    def test_a_step_that_is_not_open_any_more_is_passed_over(self):
        rule = ("make", (("e", ("x", "y")),), (("t", ("y",)),))
        chase = ended(program(rule), book(e(A, C), e(B, C)), ())
        self.assertEqual([line[1:3] for line in chase.lines()[2:]], [(0, (A, C))])
        chase = ended(program(SINGLE), (), book(q(A, X), q(A, B)))
        self.assertEqual([line[1:3] for line in chase.lines()[2:]], [(0, (A, X, B))])

    def test_by_the_names_that_the_values_have_by_then(self):
        rules = [SINGLE, ("make", (("q", ("x", "y")),), (("t", ("y",)),))]
        chase = ended(program(*rules), (), book(q(A, X), q(A, B)))
        self.assertEqual([line[1:3] for line in chase.lines()[2:]], [(0, (A, X, B)), (1, (A, B))])

    def test_nothing_is_made_after_a_clash_in_the_round(self):
        chase = ended(program(SINGLE, SIMPLE), book(p(A), p(B)), book(q(A, B), q(A, C)))
        self.assertEqual([line[1:3] for line in chase.lines()[4:]], [(0, (A, B, C))])


class Lines(Case):
    def test_in_the_order_of_the_document(self):
        source, known = book(r(A), p(A), p(B)), book(t(X), q(A, X))
        chase = Chase(program(SIMPLE, SINGLE), source, known)
        begin = [("given", fact) for fact in source] + [("known", fact) for fact in known]
        self.assertEqual(chase.lines(), begin)
        chase.run()
        # q(a, ?x) is on line 3 and q(a, 0.z(a)) on line 5.
        self.assertEqual(chase.lines(), begin + [
            ("use", 0, (A,), ((0, 0),)), ("use", 0, (B,), ((1, 0),)), ("use", 1, (A, z(A), X), ((5, 0), (3, 0)))])

    def test_places_in_lines_with_several_facts(self):
        rules = [BOTH, ("make", (("q", ("x", "y")), ("q", ("v", "y"))), (("t", ("v",)),))]
        chase = ended(program(*rules), book(p(A), r(B)), ())
        w = ("0.w", (A, B))
        self.assertEqual(chase.lines(), [
            ("given", p(A)), ("given", r(B)), ("use", 0, (A, B), ((0, 0), (1, 0))),
            ("use", 1, (A, w, A), ((2, 0), (2, 0))), ("use", 1, (A, w, B), ((2, 0), (2, 1)))])

    def test_names_of_that_time(self):
        rules = [("make", (("t", ("x",)),), (("u", ("x", "z", "x")),)), SINGLE]
        chase = Chase(program(*rules), (), book(t(X), q(A, X), q(A, B)))
        chase.make(0)
        chase.make(1)
        self.assertEqual(chase.lines()[3:], [
            ("use", 0, (X,), ((2, 0),)), ("use", 1, (A, B, X), ((1, 0), (0, 0)))])
        self.assertEqual(chase.outcome(), ("target", book(t(B), q(A, B), ("u", (B, z(B), B)))))
        self.assertEqual(chase.lines()[3], ("use", 0, (X,), ((2, 0),)))

    def test_forms(self):
        chase = ended(program(SIMPLE, SINGLE), book(p(A)), book(q(A, X)))
        self.assertIs(type(chase.lines()), list)
        for line in chase.lines():
            self.assertIs(type(line), tuple)

    def test_lists_may_be_changed_by_the_caller(self):
        chase = Chase(program(SIMPLE), book(p(A), p(B)), ())
        steps, lines = chase.open_steps(), chase.lines()
        steps.reverse()
        steps.append((7, ()))
        lines.clear()
        self.assertEqual(chase.open_steps(), [(0, (A,)), (0, (B,))])
        self.assertEqual(len(chase.lines()), 2)
        steps, lines = chase.open_steps(), chase.lines()
        kept = (list(steps), list(lines))
        chase.run()
        self.assertEqual((steps, lines), kept)
        self.assertEqual(len(chase.lines()), 4)

    def test_lines_with_a_right_last_line_are_a_paper(self):
        told = (program(SIMPLE, SINGLE), book(p(A)), book(q(A, X), q(B, X), q(B, C)))
        question = ((("x",), (("q", (A, "x")),)),)
        chase = ended(*told)
        self.assertEqual(chase.outcome(), ("target", book(q(A, C), q(B, C))))
        at = [line for line in chase.lines()].index(("known", q(A, X)))
        paper = chase.lines() + [("answer", 0, (C,), ((at, 0),))]
        self.assertIs(judge_answer(*told, question, (C,), paper), True)
        self.assertIs(judge_answer(*told, question, (B,), paper), False)
        told = (program(BOTH, KEY), book(p(A), r(B)), ())
        self.assertIs(judge_clash(*told, ended(*told).lines() + [("clash",)]), True)
        self.assertIs(judge_clash(*told, Chase(*told).lines() + [("clash",)]), False)


class ItsClasses(Case):
    def test_values_of_all_facts(self):
        chase = Chase(program(SIMPLE, SINGLE), book(p(A)), book(q(A, X)))
        self.assertIsInstance(chase.classes(), Classes)
        self.assertIs(chase.classes().same(X, z(A)), False)
        chase.run()
        self.assertIs(chase.classes().same(X, z(A)), True)
        self.assertEqual(chase.classes().name(z(A)), X)
        self.assertIs(chase.classes().clash(), False)
        self.assertIs(chase.classes().same(A, X), False)

    def test_a_clash(self):
        chase = ended(program(SINGLE), (), book(q(A, B), q(A, C)))
        self.assertIs(chase.classes().clash(), True)
        self.assertIs(chase.classes().same(B, C), True)

    def test_values_that_are_only_asked_for_make_no_facts(self):
        chase = Chase(program(SIMPLE), (p(A),), ())
        self.assertIs(chase.classes().same(z(A), X), False)
        self.assertEqual(chase.open_steps(), [(0, (A,))])
        chase.run()
        self.assertEqual(chase.outcome(), ("target", (q(A, z(A)),)))


class Unchanged(Case):
    def test_books_and_programs_stay_as_they_were(self):
        told = (program(SIMPLE, SINGLE, BOTH), book(p(A), r(A)), book(q(A, X), t(X)))
        before = copy.deepcopy(told)
        chase = ended(*told)
        chase.outcome()
        chase.lines()
        chased(*told)
        self.assertEqual(told, before)

    def test_two_chases_of_the_same_books(self):
        told = (program(SIMPLE, SINGLE), book(p(A)), book(q(A, X)))
        one, other = Chase(*told), Chase(*told)
        one.run()
        self.assertEqual(len(other.lines()), 2)
        self.assertEqual(len(other.open_steps()), 1)
        other.run()
        self.assertEqual(one.outcome(), other.outcome())


class Freest(Case):
    def test_the_outcome_keeps_the_rules_and_has_the_known_facts(self):
        chance = random.Random(19)
        many = 0
        for _ in range(200):
            told = some_case(chance)
            chase = ended(*told)
            kind, facts = chase.outcome()
            if kind == "target":
                many += 1
                for rule in told[0]["rules"]:
                    self.assertTrue(keeps(rule, told[1], facts))
                for relation, values in told[2]:
                    self.assertIn((relation, tuple([chase.classes().name(value) for value in values])), facts)
                self.assertTrue(is_book(facts, told[0]["target"]))
        self.assertGreater(many, 100)

    def test_what_holds_in_the_outcome_holds_in_every_target(self):
        small = {"source": {"p": 1, "r": 1}, "target": {"q": 2}, "rules": (BOTH, SINGLE)}
        question = ((("x",), (("q", ("x", "y")),)), (("y",), (("q", ("x", "y")), ("q", ("y", "x")))))
        for source in (book(p(A)), book(p(A), r(A)), book(p(A), r(B))):
            _, facts = chased(small, source, ())
            certain = {answer for answer in answers(question, facts) if all(map(is_constant, answer))}
            many = 0
            for other in all_books({"q": 2}, [A, B, ("?n",)]):
                if all(keeps(rule, source, other) for rule in small["rules"]):
                    many += 1
                    self.assertLessEqual(certain, answers(question, other))
            self.assertGreater(many, 0)

    def test_no_target_after_a_clash(self):
        small = {"source": {"p": 1, "r": 1}, "target": {"q": 2}, "rules": (BOTH, KEY)}
        source = book(p(A), r(B))
        self.assertEqual(chased(small, source, ()), ("clash", ()))
        for other in all_books({"q": 2}, [A, B, ("?n",)]):
            self.assertFalse(all(keeps(rule, source, other) for rule in small["rules"]))


class Chance(Case):
    def test_against_the_naive_chase_step_by_step(self):
        chance = random.Random(15)
        kinds = []
        for _ in range(250):
            told = some_case(chance)
            self.assertTrue(is_program(told[0]))
            chase, naive = Chase(*told), NaiveChase(*told)
            steps = naive.open_steps()
            while steps:
                self.assertEqual(chase.open_steps(), steps)
                index = chance.randint(-20, 20)
                self.assertIs(chase.make(index), True)
                naive.make(steps[index % len(steps)])
                steps = naive.open_steps()
            self.assertEqual(chase.open_steps(), [])
            self.assertIs(chase.make(0), False)
            self.assertEqual(chase.outcome(), naive.outcome())
            self.assertEqual(chased(*told), naive.outcome())
            kinds.append(naive.outcome()[0])
        self.assertGreater(kinds.count("target"), 100)
        self.assertGreater(kinds.count("clash"), 3)

    def test_the_same_outcome_in_any_order(self):
        chance = random.Random(18)
        for _ in range(200):
            told = some_case(chance)
            expected = repr(chased(*told))
            for _ in range(4):
                chase = Chase(*told)
                while chase.make(chance.randint(0, 50)):
                    pass
                self.assertEqual(repr(chase.outcome()), expected)


class Large(Case):
    def test_four_rules_and_unknowns_three_deep(self):
        rules = (
            ("make", (("e", ("x", "y")),), (("q", ("x", "z")), ("q", ("z", "y")))),
            ("make", (("q", ("x", "y")),), (("u", ("x", "y", "w")),)),
            ("make", (("u", ("x", "y", "v")),), (("t", ("k",)), ("s", ("v", "k")))),
            SINGLE)
        large = {"source": {"e": 2}, "target": {"q": 2, "t": 1, "u": 3, "s": 2}, "rules": rules}
        self.assertTrue(is_program(large))
        values = [(f"n{at}",) for at in range(6)]
        source = book(*[e(one, other) for one, other in zip(values, values[1:])])
        begin = time.process_time()
        self.assertEqual(len(chased(large, source, ())[1]), 40)
        question = ((("x", "y"), (("q", ("x", "v")), ("q", ("v", "y")), ("t", ("w",)))),)
        paper = answer_paper(large, source, (), question, (values[0], values[1]))
        self.assertIs(judge_answer(large, source, (), question, (values[0], values[1]), paper), True)
        self.assertLess(time.process_time() - begin, 2)

    def test_many_facts(self):
        names = [(f"n{at}",) for at in range(400)]
        begin = time.process_time()
        outcome = chased(program(SIMPLE, SINGLE), book(*[p(name) for name in names]), book(*[q(name, A) for name in names]))
        self.assertEqual(outcome, ("target", book(*[q(name, A) for name in names])))
        self.assertLess(time.process_time() - begin, 10)


if __name__ == "__main__":
    unittest.main()
