"""Points [1], [6] to [9]: atoms, rules, programs and questions."""

import copy
import unittest

from everytarget.values import (
    fact_of, frontier, is_program, is_question, made_variables, variables_of)

A = ("a",)
B = ("b",)
MAKE = ("make", (("p", ("x",)),), (("t", ("x", "z")),))
FROM_TARGET = ("make", (("t", ("x", "y")),), (("u", ("y",)),))
SAME = ("same", (("t", ("x", "y")), ("t", ("v", "y"))), "x", "v")
PROGRAM = {
    "source": {"p": 1, "s": 2},
    "target": {"t": 2, "u": 1},
    "rules": (MAKE, FROM_TARGET, SAME),
}
ANY_KIND = [
    None, 0, 1, -7, 1.5, True, False, "", "a", "make", b"a", [], ["a"], [A], {}, {"a": 1},
    (), A, ("make",), {"a"}, object(), len, int, range(2),
]


class AlwaysEqual:
    """Equal to everything, and without a hash."""

    def __eq__(self, other):
        return True


def with_part(key, part):
    program = copy.deepcopy(PROGRAM)
    program[key] = part
    return program


def with_rule(*rule):
    return with_part("rules", (tuple(rule),))


class Atoms(unittest.TestCase):
    def test_variables_in_the_order_in_which_they_first_stand(self):
        atoms = (("t", ("y", "x")), ("t", ("x", "w")), ("u", ("y",)), ("t", ("a", "w")))
        self.assertEqual(variables_of(atoms), ("y", "x", "w", "a"))

    def test_constants_are_no_variables(self):
        self.assertEqual(variables_of((("t", (A, "x")), ("u", (B,)), ("t", ("x", ("x",))))), ("x",))
        self.assertEqual(variables_of((("t", (A, B)),)), ())

    def test_a_variable_may_be_called_like_a_constant_or_a_relation(self):
        self.assertEqual(variables_of((("t", (("a",), "a")), ("t", ("t", "a")))), ("a", "t"))

    def test_no_atoms(self):
        self.assertEqual(variables_of(()), ())

    def test_fact_of_an_atom(self):
        binding = {"x": A, "y": ("0.z", (B,)), "w": ("?1",)}
        before = copy.deepcopy(binding)
        self.assertEqual(fact_of(("t", ("x", "y")), binding), ("t", (A, ("0.z", (B,)))))
        self.assertEqual(fact_of(("t", ("y", "y")), binding), ("t", (("0.z", (B,)), ("0.z", (B,)))))
        self.assertEqual(fact_of(("t", (("x",), "w")), binding), ("t", (("x",), ("?1",))))
        self.assertEqual(fact_of(("u", (B,)), {}), ("u", (B,)))
        self.assertEqual(binding, before)


class Variables(unittest.TestCase):
    def test_frontier_has_the_order_of_the_body(self):
        rule = ("make", (("s", ("c", "b")), ("s", ("b", "a")), ("p", ("d",))),
                (("t", ("a", "z")), ("t", ("y", "b")), ("u", ("c",)), ("t", ("z", "a"))))
        self.assertEqual(frontier(rule), ("c", "b", "a"))

    def test_made_variables_have_the_order_of_the_head(self):
        rule = ("make", (("s", ("c", "b")),),
                (("t", ("z", "c")), ("t", ("y", "z")), ("t", ("b", "a")), ("t", ("a", "y"))))
        self.assertEqual(made_variables(rule), ("z", "y", "a"))

    def test_rules_without_frontier_or_made_variables(self):
        alone = ("make", (("p", ("x",)),), (("u", ("z",)),))
        self.assertEqual((frontier(alone), made_variables(alone)), ((), ("z",)))
        full = ("make", (("p", ("x",)),), (("t", ("x", "x")),))
        self.assertEqual((frontier(full), made_variables(full)), (("x",), ()))
        constants = ("make", (("p", (A,)),), (("t", (A, B)),))
        self.assertEqual((frontier(constants), made_variables(constants)), ((), ()))

    def test_a_constant_is_not_the_variable_of_its_name(self):
        rule = ("make", (("s", ("x", ("y",))),), (("t", (("x",), "y")),))
        self.assertEqual((frontier(rule), made_variables(rule)), ((), ("y",)))


class Programs(unittest.TestCase):
    def assert_no_programs(self, programs):
        for program in programs:
            self.assertIs(is_program(program), False, program)

    def test_programs(self):
        self.assertIs(is_program(PROGRAM), True)
        self.assertIs(is_program({"source": {}, "target": {}, "rules": ()}), True)
        self.assertIs(is_program({"source": {"p": 1}, "target": {}, "rules": ()}), True)
        self.assertIs(is_program({"rules": (), "target": {"p": 4}, "source": {}}), True)

    def test_rules_of_every_kind(self):
        rules = (
            ("make", (("p", (A,)),), (("u", (A,)),)),
            ("make", (("p", ("x",)), ("s", ("x", "y"))), (("t", ("y", "z")), ("u", ("z",)))),
            ("make", (("t", ("x", "y")), ("u", ("x",))), (("t", ("y", "z")),)),
            ("make", (("p", ("abcdefgh",)),), (("u", ("a1234567",)),)),
            ("make", (("p", (("0",),)),), (("u", (("12345678",),)),)),
            ("same", (("t", ("x", "y")),), "x", "y"),
            ("same", (("t", ("x", "y")),), "y", "y"),
            ("same", (("t", (A, "y")), ("u", ("x",))), "x", "y"))
        for rule in rules:
            self.assertIs(is_program(with_rule(*rule)), True, rule)
        self.assertIs(is_program(with_part("rules", rules)), True)

    def test_keys(self):
        for key in PROGRAM:
            without = copy.deepcopy(PROGRAM)
            del without[key]
            other = copy.deepcopy(without)
            other[key.upper()] = PROGRAM[key]
            self.assert_no_programs([without, other])
        self.assert_no_programs([with_part("more", ()), with_part(1, ()), with_part(None, ()), {}])

    def test_any_other_kind_of_value(self):
        self.assert_no_programs(ANY_KIND + [AlwaysEqual()])
        self.assert_no_programs([tuple(PROGRAM.items()), list(PROGRAM), tuple(PROGRAM.values())])
        for key in PROGRAM:
            for part in ANY_KIND + [AlwaysEqual()]:
                if part != () and part != {} or key == "rules" and part != ():
                    self.assertIs(is_program(with_part(key, part)), False, (key, part))

    def test_relations_are_dicts(self):
        for part in ((), [], (("p", 1),), [("p", 1)], {"p"}, "p", None):
            self.assert_no_programs([{"source": part, "target": {}, "rules": ()}])
            self.assert_no_programs([{"source": {}, "target": part, "rules": ()}])

    def test_names_of_relations(self):
        bad = ("", "abcdefghi", "1p", "0", "P", "p_", "?p", "p q", "p.q", "\u00e9", 1, None, True, ("p",))
        for name in bad:
            self.assert_no_programs([{"source": {name: 1}, "target": {}, "rules": ()}])
            self.assert_no_programs([{"source": {}, "target": {"u": 1, name: 1}, "rules": ()}])
        for name in ("p", "abcdefgh", "p1", "z0000000"):
            self.assertIs(is_program({"source": {name: 1}, "target": {}, "rules": ()}), True)
            self.assertIs(is_program({"source": {}, "target": {name: 1}, "rules": ()}), True)

    def test_numbers_of_places(self):
        for many in (0, 5, -1, 100, True, False, None, "1", 1.0, 2.0, (1,), [1]):
            self.assert_no_programs([{"source": {"p": many}, "target": {}, "rules": ()}])
            self.assert_no_programs([{"source": {}, "target": {"u": 1, "p": many}, "rules": ()}])
        for many in (1, 2, 3, 4):
            self.assertIs(is_program({"source": {"p": many}, "target": {}, "rules": ()}), True)
            self.assertIs(is_program({"source": {}, "target": {"p": many}, "rules": ()}), True)

    def test_true_is_no_number_of_places_though_rules_would_fit(self):
        rule = ("make", (("p", ("x",)),), (("u", ("x",)),))
        for source, target in (({"p": True}, {"u": 1}), ({"p": 1}, {"u": True})):
            self.assert_no_programs([{"source": source, "target": target, "rules": (rule,)}])
        right = {"source": {"p": 1}, "target": {"u": 1}, "rules": (rule,)}
        self.assertIs(is_program(right), True)

    def test_no_name_is_in_both(self):
        for source, target in (({"p": 1}, {"p": 1}), ({"p": 1, "q": 2}, {"a": 1, "q": 1})):
            self.assert_no_programs([{"source": source, "target": target, "rules": ()}])

    def test_rules_are_a_tuple(self):
        self.assert_no_programs([with_part("rules", part) for part in ([], [MAKE], {}, "", None, MAKE)])

    def test_a_rule_is_a_tuple_of_its_form(self):
        for rule in ANY_KIND + [list(MAKE), list(SAME), AlwaysEqual()]:
            self.assert_no_programs([with_part("rules", (rule,)), with_part("rules", (MAKE, rule, SAME))])
        _, body, head = MAKE
        _, equal, left, right = SAME
        self.assert_no_programs([
            with_rule("make"), with_rule("make", body), with_rule("make", body, head, head),
            with_rule("same", equal), with_rule("same", equal, left), with_rule(*SAME, "x"),
            with_rule("make", *SAME[1:]), with_rule("same", *FROM_TARGET[1:]), with_rule(*MAKE[1:]),
            with_rule("Make", body, head), with_rule("SAME", equal, left, right),
            with_rule("", body, head), with_rule("egd", equal, left, right)])
        for word in ANY_KIND + [AlwaysEqual()]:
            if not isinstance(word, str) or word != "make":
                self.assert_no_programs([with_rule(word, body, head), with_rule(word, equal, left, right)])

    def test_bodies_and_heads_are_tuples_of_at_least_one_atom(self):
        _, body, head = MAKE
        for part in ANY_KIND + [list(body), list(head), AlwaysEqual()]:
            self.assert_no_programs([
                with_rule("make", part, head), with_rule("make", body, part),
                with_rule("same", part, "x", "v")])

    def test_each_atom_is_a_pair_of_tuples(self):
        for atom in ANY_KIND + [["u", ("x",)], ("u", ["x"]), ("u",), ("u", ("x",), ()), ("u", "x"), AlwaysEqual()]:
            self.assert_no_programs([
                with_rule("make", (("t", ("x", "v")), atom), (("u", ("x",)),)),
                with_rule("make", (("p", ("x",)),), (("u", ("x",)), atom)),
                with_rule("same", (("t", ("x", "v")), atom), "x", "v")])

    def test_relations_of_atoms(self):
        for name in ("", "q", "P", None, 1, True, ("u",), ["u"], {}, AlwaysEqual()):
            atom = (name, ("x",))
            self.assert_no_programs([
                with_rule("make", (atom,), (("u", ("x",)),)),
                with_rule("make", (("p", ("x",)),), (atom,)),
                with_rule("make", (("p", ("x",)),), (("u", ("x",)), atom)),
                with_rule("same", (("t", ("x", "v")), atom), "x", "v")])

    def test_numbers_of_slots(self):
        for slots in ((), ("x", "x"), ("x", "x", "x")):
            self.assert_no_programs([
                with_rule("make", (("p", slots),), (("u", ("x",)),)),
                with_rule("make", (("u", slots),), (("u", ("x",)),)),
                with_rule("make", (("p", ("x",)),), (("u", slots),)),
                with_rule("same", (("u", slots),), "x", "x")])
        self.assertIs(is_program(with_rule("same", (("u", ("x",)),), "x", "x")), True)

    def test_slots(self):
        bad = [
            "", "abcdefghi", "1x", "X", "x_", "?x", "\u00e9", "0.z", None, 1, True, ["a"], [], (),
            ("",), ("abcdefghi",), ("A",), ("?x",), ("0.z", ()), ("0.z", (A,)), ("a", "b"), (1,), AlwaysEqual()]
        for slot in bad:
            self.assert_no_programs([
                with_rule("make", (("s", ("x", slot)),), (("u", ("x",)),)),
                with_rule("make", (("t", (slot, "x")),), (("u", ("x",)),)),
                with_rule("make", (("p", ("x",)),), (("t", ("x", slot)),)),
                with_rule("same", (("t", ("x", slot)),), "x", "x")])

    def test_a_body_has_atoms_of_one_kind(self):
        source, target = ("p", ("x",)), ("u", ("x",))
        for body in ((source, target), (target, source), (source, source, target)):
            self.assert_no_programs([with_rule("make", body, (target,)), with_rule("same", body, "x", "x")])

    def test_the_body_of_a_same_rule_has_target_atoms(self):
        self.assert_no_programs([
            with_rule("same", (("p", ("x",)),), "x", "x"), with_rule("same", (("s", ("x", "y")),), "x", "y")])

    def test_heads_have_target_atoms(self):
        body = (("p", ("x",)),)
        for head in ((("p", ("x",)),), (("u", ("x",)), ("p", ("x",))), (("s", ("x", "z")), ("u", ("x",)))):
            self.assert_no_programs([with_rule("make", body, head), with_rule("make", (("u", ("x",)),), head)])

    def test_left_and_right_are_variables_of_the_body(self):
        body = (("t", ("x", A)), ("u", ("y",)))
        for name in ("z", "a", "t", "", ("x",), A, ["x"], None, 0, True, AlwaysEqual()):
            self.assert_no_programs([with_rule("same", body, name, "y"), with_rule("same", body, "x", name)])
        self.assertIs(is_program(with_rule("same", body, "x", "y")), True)

    def test_each_rule_is_looked_at(self):
        bad = ("make", (("p", ("x",)),), (("p", ("x",)),))
        for rules in ((bad, MAKE, SAME), (MAKE, bad, SAME), (MAKE, SAME, bad)):
            self.assert_no_programs([with_part("rules", rules)])

    def test_nothing_is_changed(self):
        for program in (PROGRAM, with_part("rules", [MAKE]), with_part("source", {"t": 2})):
            before = copy.deepcopy(program)
            is_program(program)
            self.assertEqual(program, before)


CLAUSE = (("x",), (("t", ("x", "y")),))


class Questions(unittest.TestCase):
    def assert_no_questions(self, questions):
        for question in questions:
            self.assertIs(is_question(question, PROGRAM), False, question)

    def test_questions(self):
        questions = (
            (CLAUSE,), (CLAUSE, CLAUSE), (CLAUSE, ((A,), (("u", (B,)),))),
            (((), (("u", ("x",)),)),), (((), (("u", (A,)),)), ((), (("t", ("x", "x")),))),
            ((("x", "x", "y", A), (("u", ("x",)), ("t", ("x", "y")))),))
        for question in questions:
            self.assertIs(is_question(question, PROGRAM), True, question)

    def test_any_other_kind_of_value(self):
        self.assert_no_questions(ANY_KIND + [[CLAUSE], CLAUSE, AlwaysEqual()])
        for clause in ANY_KIND + [list(CLAUSE), AlwaysEqual(), (*CLAUSE, ()), CLAUSE[:1]]:
            self.assert_no_questions([(clause,), (CLAUSE, clause), (clause, CLAUSE)])

    def test_at_least_one_clause(self):
        self.assert_no_questions([()])

    def test_slots_are_a_tuple(self):
        for slots in (["x"], "x", None, {"x": 1}, 1, True, AlwaysEqual()):
            self.assert_no_questions([((slots, CLAUSE[1]),)])

    def test_at_most_four_slots(self):
        for many in range(0, 5):
            self.assertIs(is_question(((("x",) * many, CLAUSE[1]),), PROGRAM), True)
        for many in (5, 6, 40):
            self.assert_no_questions([((("x",) * many, CLAUSE[1]),), (((A,) * many, CLAUSE[1]),)])

    def test_the_same_number_of_slots_in_each_clause(self):
        two = (("x", "y"), CLAUSE[1])
        none = ((), CLAUSE[1])
        self.assert_no_questions([(CLAUSE, two), (two, CLAUSE), (none, CLAUSE), (CLAUSE, CLAUSE, none)])

    def test_slots_are_variables_of_the_body_or_constants(self):
        bad = ["z", "a", "t", "", "1x", ("?x",), ("A",), ("0.z", ()), ["x"], None, 1, True, (), ("x", "y"), AlwaysEqual()]
        for slot in bad:
            self.assert_no_questions([(((slot,), CLAUSE[1]),), (CLAUSE, ((slot,), CLAUSE[1]))])
            self.assert_no_questions([((("x", slot), CLAUSE[1]),), (((slot, A), CLAUSE[1]),)])

    def test_a_constant_of_the_body_is_no_variable(self):
        self.assert_no_questions([((("a",), (("u", (A,)),)),)])

    def test_a_variable_of_another_clause_does_not_count(self):
        self.assert_no_questions([(CLAUSE, (("x",), (("u", ("v",)),)))])

    def test_bodies_are_tuples_of_at_least_one_atom(self):
        for body in ANY_KIND + [[("u", ("x",))], ("u", ("x",)), AlwaysEqual()]:
            self.assert_no_questions([(((), body),), ((("x",), body),)])

    def test_bodies_have_target_atoms(self):
        self.assert_no_questions([
            (((), (("p", ("x",)),)),), ((("x",), (("u", ("x",)), ("p", ("x",)))),),
            (((), (("q", ("x",)),)),), (((), ((1, ("x",)),)),), (((), ((["u"], ("x",)),)),)])

    def test_atoms_of_bodies(self):
        bad = [
            ("t", ("x",)), ("t", ("x", "x", "x")), ("t", ()), ("t", ["x", "x"]), ["t", ("x", "x")],
            ("t", ("x", "X")), ("t", ("x", ("?x",))), ("t", ("x", ("0.z", ()))), ("t", ("x", None)), ("t",), "t"]
        for atom in bad:
            self.assert_no_questions([(((), (atom,)),), (((), (("u", ("x",)), atom)),)])

    def test_relations_of_the_program_that_is_passed(self):
        other = {"source": {"t": 2}, "target": {"p": 1}, "rules": ()}
        self.assertIs(is_question((CLAUSE,), other), False)
        self.assertIs(is_question(((("x",), (("p", ("x",)),)),), other), True)

    def test_nothing_is_changed(self):
        question = [[["x"], [["t", ["x", "y"]]]]]
        program = copy.deepcopy(PROGRAM)
        is_question(question, program)
        is_question((CLAUSE, CLAUSE), program)
        self.assertEqual(question, [[["x"], [["t", ["x", "y"]]]]])
        self.assertEqual(program, PROGRAM)


if __name__ == "__main__":
    unittest.main()
