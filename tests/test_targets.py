"""Points [1], [24] and [25]: targets, and the examiner who tells the first rule that is not kept."""

import copy
import pathlib
import random
import sys
import time
import unittest

sys.path.insert(0, str(pathlib.Path(__file__).resolve().parent))

from everytarget.chase import chased
from everytarget.targets import first_fault, is_target
from everytarget.values import is_book, is_program
from naive import CONSTANTS, FREE, TARGET, all_books, keeps, some_book, some_case

A = ("a",)
B = ("b",)
C = ("c",)
X = ("?x",)
Y = ("?y",)
# p(x) -> q(x, z)
SIMPLE = ("make", (("p", ("x",)),), (("q", ("x", "z")),))
# q(x, y), q(v, y) -> x = v
KEY = ("same", (("q", ("x", "y")), ("q", ("v", "y"))), "x", "v")
# q(x, y), q(x, v) -> y = v
SINGLE = ("same", (("q", ("x", "y")), ("q", ("x", "v"))), "y", "v")
# t(x) -> q(x, x)
LOOP = ("make", (("t", ("x",)),), (("q", ("x", "x")),))


class AlwaysEqual:
    """Equal to everything, and without a hash."""

    def __eq__(self, other):
        return True


def z(*values):
    return ("0.z", values)


def program(*rules):
    return {"source": {"p": 1, "r": 1, "e": 2}, "target": {"q": 2, "t": 1, "u": 3}, "rules": rules}


def p(value):
    return ("p", (value,))


def r(value):
    return ("r", (value,))


def e(one, other):
    return ("e", (one, other))


def q(one, other):
    return ("q", (one, other))


def t(value):
    return ("t", (value,))


def u(*values):
    return ("u", values)


def book(*facts):
    return tuple(sorted(facts))


class Case(unittest.TestCase):
    def assert_fault(self, rules, source, facts, fault):
        told = (program(*rules), book(*source), book(*facts))
        self.assertTrue(is_program(told[0]))
        self.assertEqual(first_fault(*told), fault)
        self.assertIs(is_target(*told), fault == ("", -1))

    def assert_target(self, rules, source, facts):
        self.assert_fault(rules, source, facts, ("", -1))


class Form(Case):
    def assert_no_book(self, value):
        for rules in ((), (SIMPLE,), (SIMPLE, KEY)):
            self.assertEqual(first_fault(program(*rules), (p(A),), value), ("form", -1))
            self.assertIs(is_target(program(*rules), (p(A),), value), False)

    def test_values_that_are_no_book(self):
        for value in (
                None, 0, 1, -1, 2.5, True, False, "", "q", b"q", [], {}, set(), object(), AlwaysEqual(), len, int,
                NotImplemented, range(0), [q(A, B)], {q(A, B): True}, {0: q(A, B)}, q(A, B), (None,), (0,), (True,),
                ("q",), ((),), ([],), ({},), (AlwaysEqual(),), ("q", ("a", "b")), (["q", (A, B)],), (("q", [A, B]),),
                (("q",),), (("q", (A, B), ()),), (("q", ("a", "b")),), (("q", (A, 1)),), (("q", (A, True)),),
                (("q", (A, [])),), (("q", (A, ("?",))),), (("q", (A, ("A",))),), (("q", (A, AlwaysEqual())),),
                ((AlwaysEqual(), (A,)),), (([], (A,)),), ((None, (A,)),), ((0, (A,)),), (("q", None),), (("q", "ab"),),
                (("q", (A, ("z", (A,)))),), (("q", (A, ("00.z", (A,)))),), (("q", (A, ("0.z", A))),)):
            with self.subTest(value=value):
                self.assert_no_book(value)

    def test_facts_of_the_source_or_of_no_relation(self):
        self.assert_no_book((p(A),))
        self.assert_no_book((e(A, B), q(A, B)))
        self.assert_no_book((("n", (A,)),))
        self.assert_no_book((("", (A,)),))

    def test_facts_with_wrong_numbers_of_values(self):
        self.assert_no_book((("q", ()),))
        self.assert_no_book((("q", (A,)),))
        self.assert_no_book((("q", (A, B, C)),))
        self.assert_no_book((q(A, B), ("t", (A, B))))

    def test_facts_out_of_order_or_twice(self):
        self.assert_no_book((q(B, A), q(A, B)))
        self.assert_no_book((t(A), q(A, B)))
        self.assert_no_book((q(A, B), q(A, B)))
        self.assert_no_book((q(A, B), q(A, X)))
        self.assert_no_book((q(A, B), q(A, C), q(A, B)))

    def test_the_form_comes_before_all_rules(self):
        self.assertEqual(first_fault(program(SIMPLE), (p(A),), (q(B, A), q(A, B))), ("form", -1))
        self.assertEqual(first_fault(program(), (), (q(B, A), q(A, B))), ("form", -1))

    def test_no_relations_of_the_target(self):
        nothing = {"source": {"p": 1}, "target": {}, "rules": ()}
        self.assertEqual(first_fault(nothing, (p(A),), ()), ("", -1))
        self.assertEqual(first_fault(nothing, (p(A),), (t(A),)), ("form", -1))


class MakeRules(Case):
    def test_the_example_of_the_document(self):
        told = ({"source": {"p": 1}, "target": {"q": 2}, "rules": (SIMPLE,)}, (("p", (("a",),)),))
        self.assertEqual(first_fault(*told, (("q", (("a",), ("b",))),)), ("", -1))
        self.assertIs(is_target(*told, (("q", (("a",), ("b",))),)), True)
        self.assertEqual(first_fault(*told, ()), ("rule", 0))
        self.assertIs(is_target(*told, ()), False)

    def test_the_empty_book(self):
        self.assert_target([], [p(A)], [])
        self.assert_target([SIMPLE, KEY, LOOP], [], [])
        self.assert_target([SIMPLE, LOOP], [r(A), e(A, B)], [])
        self.assert_fault([SIMPLE], [p(A)], [], ("rule", 0))

    def test_facts_that_are_not_needed(self):
        self.assert_target([SIMPLE], [p(A)], [q(A, B), q(B, B), q(A, C), t(C), u(A, B, X)])
        self.assert_target([SIMPLE], [], [q(X, Y)])

    def test_any_value_will_do(self):
        for value in (A, B, C, X, Y, z(A), z(B), z(), ("7.k", (X, z(A))), ("0.z", (("0.z", (A,)),))):
            self.assert_target([SIMPLE], [p(A)], [q(A, value)])
            self.assert_fault([SIMPLE], [p(A)], [q(B, value)], ("rule", 0))

    def test_every_match_is_looked_at(self):
        self.assert_target([SIMPLE], [p(A), p(B), p(C)], [q(A, X), q(B, X), q(C, X)])
        self.assert_fault([SIMPLE], [p(A), p(B), p(C)], [q(B, X), q(C, X)], ("rule", 0))
        self.assert_fault([SIMPLE], [p(A), p(B), p(C)], [q(A, X), q(C, X)], ("rule", 0))
        self.assert_fault([SIMPLE], [p(A), p(B), p(C)], [q(A, X), q(B, X)], ("rule", 0))

    def test_several_facts_for_the_same_value(self):
        # p(x) -> q(x, z), t(z)
        rule = ("make", (("p", ("x",)),), (("q", ("x", "z")), ("t", ("z",))))
        self.assert_target([rule], [p(A)], [q(A, B), t(B)])
        self.assert_fault([rule], [p(A)], [q(A, B), t(C)], ("rule", 0))
        self.assert_fault([rule], [p(A)], [q(A, B), q(B, C), t(C)], ("rule", 0))
        self.assert_target([rule], [p(A)], [q(A, B), q(A, C), t(C)])
        self.assert_fault([rule], [p(A)], [q(A, B)], ("rule", 0))
        self.assert_fault([rule], [p(A)], [t(B)], ("rule", 0))
        self.assert_fault([rule], [p(A), p(B)], [q(A, C), q(B, A), t(C)], ("rule", 0))
        self.assert_target([rule], [p(A), p(B)], [q(A, C), q(B, C), t(C)])

    def test_several_made_variables(self):
        # p(x) -> q(x, z), u(z, w, x), t(w)
        rule = ("make", (("p", ("x",)),), (("q", ("x", "z")), ("u", ("z", "w", "x")), ("t", ("w",))))
        self.assert_target([rule], [p(A)], [q(A, X), u(X, Y, A), t(Y)])
        self.assert_fault([rule], [p(A)], [q(A, X), u(X, Y, A), t(X)], ("rule", 0))
        self.assert_fault([rule], [p(A)], [q(A, X), u(X, Y, B), t(Y)], ("rule", 0))
        self.assert_fault([rule], [p(A)], [q(A, B), u(X, Y, A), t(Y)], ("rule", 0))
        self.assert_target([rule], [p(A)], [q(A, B), q(A, X), u(X, B, A), u(X, Y, A), t(Y)])
        self.assert_target([rule], [p(A)], [q(A, A), u(A, A, A), t(A)])

    def test_a_made_variable_in_several_places(self):
        # p(x) -> u(z, x, z)
        rule = ("make", (("p", ("x",)),), (("u", ("z", "x", "z")),))
        self.assert_target([rule], [p(A)], [u(B, A, B)])
        self.assert_fault([rule], [p(A)], [u(B, A, C)], ("rule", 0))
        self.assert_fault([rule], [p(A)], [u(X, A, Y)], ("rule", 0))
        self.assert_target([rule], [p(A)], [u(A, A, B), u(X, A, X)])

    def test_a_rule_without_frontier(self):
        # p(x) -> q(z, w), t(z)
        rule = ("make", (("p", ("x",)),), (("q", ("z", "w")), ("t", ("z",))))
        self.assert_target([rule], [], [])
        self.assert_fault([rule], [p(A)], [], ("rule", 0))
        self.assert_fault([rule], [p(A), p(B)], [q(A, B), t(B)], ("rule", 0))
        self.assert_target([rule], [p(A), p(B)], [q(B, B), t(B)])
        self.assert_target([rule], [p(A), p(B), p(C)], [q(X, B), t(X)])

    def test_a_rule_without_made_variables(self):
        # e(x, y) -> q(y, x), t(y)
        rule = ("make", (("e", ("x", "y")),), (("q", ("y", "x")), ("t", ("y",))))
        self.assert_target([rule], [e(A, B)], [q(B, A), t(B)])
        self.assert_fault([rule], [e(A, B)], [q(A, B), t(B)], ("rule", 0))
        self.assert_fault([rule], [e(A, B)], [q(B, A), t(A)], ("rule", 0))
        self.assert_fault([rule], [e(A, B)], [q(B, X), t(B)], ("rule", 0))

    def test_constants_in_body_and_head(self):
        # e(x, 'a') -> q('b', x), u(x, z, 'c')
        rule = ("make", (("e", ("x", A)),), (("q", (B, "x")), ("u", ("x", "z", C))))
        self.assert_target([rule], [e(A, B), e(C, B)], [])
        self.assert_target([rule], [e(C, A)], [q(B, C), u(C, X, C)])
        self.assert_fault([rule], [e(C, A)], [q(A, C), u(C, X, C)], ("rule", 0))
        self.assert_fault([rule], [e(C, A)], [q(B, C), u(C, C, X)], ("rule", 0))
        self.assert_fault([rule], [e(C, A)], [q(X, C), u(C, C, C)], ("rule", 0))
        # q('a', x) -> t('b')
        inner = ("make", (("q", (A, "x")),), (("t", (B,)),))
        self.assert_target([inner], [], [q(X, B), q(B, A)])
        self.assert_fault([inner], [], [q(A, X)], ("rule", 0))
        self.assert_target([inner], [], [q(A, X), t(B)])

    def test_bodies_of_target_atoms(self):
        # q(x, y), t(y) -> u(x, y, z)
        rule = ("make", (("q", ("x", "y")), ("t", ("y",))), (("u", ("x", "y", "z")),))
        self.assert_target([rule], [], [q(A, B), q(B, X), t(A)])
        self.assert_fault([rule], [], [q(A, X), t(X)], ("rule", 0))
        self.assert_target([rule], [], [q(A, X), t(X), u(A, X, X)])
        self.assert_fault([rule], [], [q(A, X), t(X), u(A, Y, X)], ("rule", 0))
        self.assert_target([LOOP], [], [q(X, X), t(X)])
        self.assert_fault([LOOP], [], [q(X, Y), t(X)], ("rule", 0))

    def test_bodies_of_several_source_atoms(self):
        # e(x, y), e(y, v), p(v) -> q(x, v)
        rule = ("make", (("e", ("x", "y")), ("e", ("y", "v")), ("p", ("v",))), (("q", ("x", "v")),))
        source = [e(A, B), e(B, C), e(C, A), p(C)]
        self.assert_fault([rule], source, [], ("rule", 0))
        self.assert_target([rule], source, [q(A, C)])
        self.assert_fault([rule], source + [p(A)], [q(A, C)], ("rule", 0))
        self.assert_target([rule], source + [p(A)], [q(A, C), q(B, A)])

    def test_a_rule_that_makes_ever_new_unknowns_may_be_kept(self):
        # q(x, y) -> q(y, z)
        rule = ("make", (("q", ("x", "y")),), (("q", ("y", "z")),))
        self.assert_fault([SIMPLE, rule], [p(A)], [q(A, B)], ("rule", 1))
        self.assert_target([SIMPLE, rule], [p(A)], [q(A, B), q(B, A)])
        self.assert_target([SIMPLE, rule], [p(A)], [q(A, A)])


class SameRules(Case):
    def test_values_that_are_different(self):
        self.assert_fault([KEY], [], [q(A, C), q(B, C)], ("rule", 0))
        self.assert_fault([KEY], [], [q(A, C), q(X, C)], ("rule", 0))
        self.assert_fault([KEY], [], [q(X, C), q(Y, C)], ("rule", 0))
        self.assert_fault([KEY], [], [q(X, C), q(z(X), C)], ("rule", 0))
        self.assert_fault([KEY], [], [q(z(A), C), q(z(B), C)], ("rule", 0))
        self.assert_fault([KEY], [], [q(z(A), C), q(("1.z", (A,)), C)], ("rule", 0))

    def test_values_that_are_equal(self):
        self.assert_target([KEY], [], [q(A, B), q(A, C), q(B, A)])
        self.assert_target([KEY], [], [q(X, A), q(Y, B), q(z(A), X)])
        self.assert_target([KEY], [], [q(A, A)])
        self.assert_target([SINGLE], [], [q(A, C), q(B, C), q(X, C), q(z(A), X)])

    def test_unknowns_count_as_values_of_their_own(self):
        # The two unknowns may be of one class in a chase, here they are different.
        self.assert_fault([SINGLE], [], [q(A, X), q(A, Y)], ("rule", 0))
        self.assert_fault([KEY, SINGLE], [], [q(A, z(A)), q(A, z(z(A)))], ("rule", 1))

    def test_values_that_are_equal_in_name_only_after_a_chase(self):
        rules = (SIMPLE, ("make", (("r", ("x",)),), (("q", ("x", "w")),)), SINGLE)
        source = book(p(A), r(A))
        one, other = q(A, ("0.z", (A,))), q(A, ("1.w", (A,)))
        self.assert_fault(rules, source, [one, other], ("rule", 2))
        self.assertEqual(chased(program(*rules), source, ()), ("target", (one,)))
        self.assert_target(rules, source, [one])
        self.assert_target(rules, source, [other])

    def test_the_same_variable_on_both_sides(self):
        rule = ("same", (("q", ("x", "y")),), "x", "x")
        self.assert_target([rule], [], [q(A, B), q(X, Y)])

    def test_constants_in_the_body(self):
        # q('a', x), t(y) -> x = y
        rule = ("same", (("q", (A, "x")), ("t", ("y",))), "x", "y")
        self.assert_target([rule], [], [q(B, C), t(A)])
        self.assert_fault([rule], [], [q(A, C), t(A)], ("rule", 0))
        self.assert_target([rule], [], [q(A, C), t(C)])
        self.assert_target([rule], [], [q(A, C), q(A, B), q(X, B)])

    def test_source_facts_are_no_facts_of_the_book(self):
        self.assert_target([("same", (("t", ("x",)), ("t", ("y",))), "x", "y")], [p(A), p(B), r(A), r(B)], [t(X)])

    def test_deep_values(self):
        one = other = A
        for _ in range(3000):
            one, other = ("0.z", (one,)), ("0.z", (other,))
        facts = (q(B, one),)
        self.assertEqual(first_fault(program(SINGLE), (), facts), ("", -1))
        rule = ("same", (("q", ("x", "y")), ("u", ("x", "x", "v"))), "y", "v")
        self.assertEqual(first_fault(program(rule), (), facts + (u(B, B, other),)), ("", -1))
        self.assertEqual(first_fault(program(rule), (), facts + (u(B, B, ("0.z", (other,))),)), ("rule", 0))


class FirstRule(Case):
    def test_the_first_rule_of_several_that_are_not_kept(self):
        source, facts = [p(A), p(B)], [q(A, C), q(C, C), t(B)]
        self.assert_fault([SIMPLE, KEY, LOOP], source, facts, ("rule", 0))
        self.assert_fault([KEY, SIMPLE, LOOP], source, facts, ("rule", 0))
        self.assert_fault([SINGLE, KEY, LOOP], source, facts, ("rule", 1))
        self.assert_fault([SINGLE, LOOP, SIMPLE], source, facts, ("rule", 1))
        self.assert_fault([SINGLE, SINGLE, SINGLE, LOOP], source, facts, ("rule", 3))
        self.assert_target([SINGLE, SINGLE, SINGLE], source, facts)

    def test_the_only_rule_that_is_not_kept(self):
        facts = [q(A, C), t(A)]
        for number in range(4):
            rules = [SIMPLE, SIMPLE, KEY]
            rules.insert(number, LOOP)
            self.assert_fault(rules, [p(A)], facts, ("rule", number))


class Outcomes(Case):
    def test_the_outcome_of_a_chase_is_a_target(self):
        chance = random.Random(24)
        many = 0
        for _ in range(300):
            told = some_case(chance)
            kind, facts = chased(*told)
            if kind == "target":
                many += 1
                self.assertEqual(first_fault(told[0], told[1], facts), ("", -1))
        self.assertGreater(many, 100)

    def test_against_trying_all_values(self):
        chance = random.Random(25)
        faults = []
        for _ in range(600):
            rules, source, _ = some_case(chance)
            values = CONSTANTS[:2] + FREE[:1] + [("1.z", (A,))]
            facts = some_book(chance, TARGET, values, chance.randint(1, 8))
            self.assertTrue(is_book(facts, TARGET))
            broken = [number for number, rule in enumerate(rules["rules"]) if not keeps(rule, source, facts)]
            expected = ("rule", broken[0]) if broken else ("", -1)
            self.assertEqual(first_fault(rules, source, facts), expected)
            self.assertIs(is_target(rules, source, facts), broken == [])
            faults.append(expected)
        self.assertGreaterEqual(len(set(faults)), 4)
        self.assertGreater(faults.count(("", -1)), 20)

    def test_against_trying_all_values_in_all_books(self):
        rules = (("make", (("p", ("x",)),), (("q", ("x", "z")), ("q", ("z", "z")))), KEY)
        source = book(p(A), p(B))
        small = {"source": {"p": 1}, "target": {"q": 2}, "rules": rules}
        targets = 0
        for other in all_books({"q": 2}, [A, B, X]):
            broken = [number for number, rule in enumerate(rules) if not keeps(rule, source, other)]
            self.assertEqual(first_fault(small, source, other), ("rule", broken[0]) if broken else ("", -1))
            targets += not broken
        self.assertGreater(targets, 3)


class Unchanged(Case):
    def test_nothing_that_is_passed_is_changed(self):
        told = (program(SIMPLE, KEY, LOOP), book(p(A), p(B)), book(q(A, C), q(B, X), t(C)))
        before = copy.deepcopy(told)
        self.assertEqual(first_fault(*told), ("rule", 2))
        self.assertIs(is_target(*told), False)
        self.assertEqual(told, before)
        wrong = [[q(A, B)]]
        first_fault(told[0], told[1], wrong)
        self.assertEqual(wrong, [[q(A, B)]])


class Large(Case):
    def test_many_facts(self):
        names = [(f"n{at}",) for at in range(150)]
        source = [p(name) for name in names]
        facts = [q(name, A) for name in names]
        begin = time.process_time()
        self.assert_target([SIMPLE, SINGLE], source, facts)
        self.assert_fault([SINGLE, SIMPLE], source, facts[:-1], ("rule", 1))
        self.assertLess(time.process_time() - begin, 5)


if __name__ == "__main__":
    unittest.main()
