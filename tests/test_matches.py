"""Points [1], [10], [11]: matches, each once, in ascending order of their facts."""

import copy
import itertools
import random
import unittest

from everytarget.matches import has_match, matches
from everytarget.values import fact_of, variables_of

A = ("a",)
B = ("b",)
C = ("c",)
X = ("?x",)
MADE = ("0.z", (A,))


def p(one, other):
    return ("p", (one, other))


def q(one):
    return ("q", (one,))


def facts_of(atoms, facts, start):
    return [chosen for _, chosen in matches(atoms, facts, start)]


def bindings_of(atoms, facts, start):
    return [binding for binding, _ in matches(atoms, facts, start)]


def every_match(atoms, facts, start):
    """The matches by trying every binding of the variables, apart from the way of the program."""
    names = [name for name in variables_of(atoms) if name not in start]
    values = sorted({value for _, values in facts for value in values})
    out = []
    for choice in itertools.product(values, repeat=len(names)):
        binding = {**start, **dict(zip(names, choice))}
        chosen = tuple([fact_of(atom, binding) for atom in atoms])
        if all([fact in facts for fact in chosen]):
            out.append((binding, chosen))
    return sorted(out, key=lambda match: match[1])


class Matches(unittest.TestCase):
    def assert_as_by_trying(self, atoms, facts, start):
        expected = every_match(atoms, facts, start)
        self.assertEqual(matches(atoms, facts, start), expected)
        self.assertIs(has_match(atoms, facts, start), expected != [])

    def test_the_example_of_the_document(self):
        facts = (p(A, B), p(B, B))
        atoms = (("p", ("x", "y")), ("p", ("y", "y")))
        self.assertEqual(matches(atoms, facts, {}), [
            ({"x": A, "y": B}, (p(A, B), p(B, B))), ({"x": B, "y": B}, (p(B, B), p(B, B)))])
        self.assertIs(has_match(atoms, facts, {}), True)

    def test_forms_of_what_is_returned(self):
        found = matches((("p", ("x", "y")),), [p(A, B)], {})
        self.assertIs(type(found), list)
        self.assertEqual([type(part) for part in found[0]], [dict, tuple])
        self.assertIs(type(found[0]), tuple)

    def test_facts_in_any_order(self):
        facts = [p(A, B), p(A, C), p(B, C), q(A), q(C)]
        atoms = (("p", ("x", "y")), ("q", ("v",)))
        expected = every_match(atoms, facts, {})
        self.assertEqual(len(expected), 6)
        for order in itertools.permutations(facts):
            self.assertEqual(matches(atoms, order, {}), expected)
            self.assertEqual(matches(atoms, list(order), {}), expected)

    def test_order_is_that_of_the_facts_and_not_of_the_variables(self):
        facts = [p(A, C), p(B, A)]
        self.assertEqual(bindings_of((("p", ("y", "x")),), facts, {}), [{"y": A, "x": C}, {"y": B, "x": A}])
        atoms = (("q", ("x",)), ("p", ("y", "x")))
        facts = [p(A, C), p(B, A), p(C, A), q(A), q(C)]
        self.assertEqual(facts_of(atoms, facts, {}), [(q(A), p(B, A)), (q(A), p(C, A)), (q(C), p(A, C))])

    def test_order_is_that_of_tuples(self):
        values = [("0.z", ()), ("0.z", (A,)), ("0.z", (A, A)), ("0.z", (B,)), ("0",), ("10",), ("9",), X, A, ("ab",), B]
        facts = [q(value) for value in values]
        self.assertEqual(facts_of((("q", ("x",)),), facts, {}), [(fact,) for fact in sorted(facts)])
        pairs = [p(one, other) for one in values for other in values]
        self.assertEqual(facts_of((("p", ("x", "y")),), pairs[::-1], {}), [(fact,) for fact in sorted(pairs)])

    def test_order_in_the_order_of_the_atoms(self):
        atoms = (("q", ("x",)), ("p", ("v", "w")))
        facts = [p(A, A), p(B, B), q(A), q(B)]
        self.assertEqual(facts_of(atoms, facts, {}), [
            (q(A), p(A, A)), (q(A), p(B, B)), (q(B), p(A, A)), (q(B), p(B, B))])
        self.assertEqual(facts_of(atoms[::-1], facts, {}), [
            (p(A, A), q(A)), (p(A, A), q(B)), (p(B, B), q(A)), (p(B, B), q(B))])

    def test_a_variable_in_several_places(self):
        facts = [p(A, A), p(A, B), p(B, X), p(X, X), p(MADE, MADE), p(MADE, A)]
        self.assertEqual(facts_of((("p", ("x", "x")),), facts, {}), [(p(MADE, MADE),), (p(X, X),), (p(A, A),)])
        long = [("r", (A, B, A, B)), ("r", (A, B, B, A)), ("r", (A, A, A, A)), ("r", (A, B, A, A))]
        self.assertEqual(
            facts_of((("r", ("x", "y", "x", "y")),), long, {}),
            [(("r", (A, A, A, A)),), (("r", (A, B, A, B)),)])

    def test_a_variable_in_several_atoms(self):
        facts = [p(A, B), p(B, C), p(B, A), q(B), q(A)]
        self.assert_as_by_trying((("p", ("x", "y")), ("p", ("y", "z"))), facts, {})
        self.assertEqual(
            bindings_of((("p", ("x", "y")), ("q", ("y",)), ("p", ("y", "x"))), facts, {}),
            [{"x": A, "y": B}, {"x": B, "y": A}])

    def test_constants_in_atoms(self):
        facts = [p(A, A), p(A, B), p(X, A), p(MADE, A), q(X)]
        self.assertEqual(matches((("p", (A, "y")),), facts, {}), [({"y": A}, (p(A, A),)), ({"y": B}, (p(A, B),))])
        self.assertEqual(matches((("p", (A, B)),), facts, {}), [({}, (p(A, B),))])
        self.assertEqual(matches((("p", (B, "y")),), facts, {}), [])
        self.assertEqual(matches((("q", (A,)),), facts, {}), [])

    def test_a_constant_is_matched_by_itself_only(self):
        facts = [q(X), q(("?a",)), q(MADE), q(("0.a", ())), q(("aa",)), q(B)]
        self.assertEqual(matches((("q", (A,)),), facts, {}), [])
        self.assertIs(has_match((("q", (A,)),), facts, {}), False)
        self.assertEqual(facts_of((("q", (A,)),), facts + [q(A)], {}), [(q(A),)])

    def test_a_constant_with_the_name_of_a_variable(self):
        facts = [p(("x",), A), p(A, ("x",)), p(A, A)]
        self.assertEqual(matches((("p", ("x", ("x",))),), facts, {}), [({"x": A}, (p(A, ("x",)),))])

    def test_unknowns_stand_for_themselves(self):
        facts = [p(X, MADE), p(MADE, X), q(("?y",)), q(X)]
        self.assertEqual(
            matches((("p", ("x", "y")), ("q", ("x",))), facts, {}),
            [({"x": X, "y": MADE}, (p(X, MADE), q(X)))])

    def test_the_same_relation_in_several_atoms(self):
        facts = [q(A), q(B), q(C)]
        atoms = (("q", ("x",)), ("q", ("y",)))
        expected = [(q(one), q(other)) for one in (A, B, C) for other in (A, B, C)]
        self.assertEqual(facts_of(atoms, facts, {}), expected)
        self.assertEqual(facts_of((("q", ("x",)), ("q", ("x",))), facts, {}), [(fact, fact) for fact in facts])

    def test_each_match_once(self):
        facts = [p(one, other) for one in (A, B, X) for other in (A, B, X)]
        for atoms in ((("p", ("x", "y")),), (("p", ("x", "y")), ("p", ("y", "x"))), (("p", ("x", "y")), ("p", ("x", "y")))):
            found = facts_of(atoms, facts, {})
            self.assertEqual(len(found), 9)
            self.assertEqual(len(set(found)), 9)

    def test_a_start_that_binds_a_variable(self):
        facts = [p(A, B), p(B, B), p(B, C)]
        atoms = (("p", ("x", "y")),)
        self.assertEqual(matches(atoms, facts, {"x": B}), [({"x": B, "y": B}, (p(B, B),)), ({"x": B, "y": C}, (p(B, C),))])
        self.assertEqual(matches(atoms, facts, {"y": B}), [({"x": A, "y": B}, (p(A, B),)), ({"x": B, "y": B}, (p(B, B),))])
        self.assertEqual(matches(atoms, facts, {"x": A, "y": B}), [({"x": A, "y": B}, (p(A, B),))])
        for start in ({"x": C}, {"y": A}, {"x": A, "y": C}, {"x": X}, {"x": MADE}):
            self.assertEqual(matches(atoms, facts, start), [])
            self.assertIs(has_match(atoms, facts, start), False)

    def test_a_start_that_binds_a_variable_of_a_later_atom(self):
        facts = [p(A, B), p(B, C), q(A), q(B)]
        atoms = (("q", ("v",)), ("p", ("x", "y")), ("q", ("y",)))
        for start in ({}, {"y": B}, {"y": C}, {"x": A}, {"v": B, "y": B}):
            self.assert_as_by_trying(atoms, facts, start)

    def test_a_start_that_binds_a_variable_of_no_atom(self):
        facts = [q(A), q(B)]
        atoms = (("q", ("x",)),)
        self.assertEqual(matches(atoms, facts, {"w": MADE}), [
            ({"w": MADE, "x": A}, (q(A),)), ({"w": MADE, "x": B}, (q(B),))])
        self.assertEqual(matches(atoms, facts, {"w": C, "x": B}), [({"w": C, "x": B}, (q(B),))])
        self.assertIs(has_match(atoms, facts, {"w": C}), True)
        self.assertIs(has_match(atoms, facts, {"w": C, "x": C}), False)

    def test_no_match(self):
        for atoms, facts in (
                ((("q", ("x",)),), []),
                ((("q", ("x",)),), ()),
                ((("q", ("x",)),), [p(A, A)]),
                ((("p", ("x", "x")),), [p(A, B), p(B, A), p(X, A)]),
                ((("p", ("x", "y")), ("q", ("y",))), [p(A, B), q(A)]),
                ((("q", ("x",)), ("r", ("x",))), [q(A)])):
            self.assertEqual(matches(atoms, facts, {}), [])
            self.assertIs(has_match(atoms, facts, {}), False)

    def test_a_fact_with_another_number_of_values_is_not_that_of_the_atom(self):
        facts = [("p", (A,)), ("p", (A, B)), ("p", (A, B, B)), ("p", ())]
        self.assertEqual(facts_of((("p", ("x", "y")),), facts, {}), [(p(A, B),)])
        self.assertEqual(facts_of((("p", (A,)),), facts, {}), [(("p", (A,)),)])

    def test_atoms_without_variables(self):
        facts = [p(A, B), q(A)]
        self.assertEqual(matches((("q", (A,)), ("p", (A, B))), facts, {}), [({}, (q(A), p(A, B)))])
        self.assertEqual(matches((("q", (A,)), ("p", (B, A))), facts, {}), [])

    def test_against_trying_every_binding(self):
        chance = random.Random(20)
        values = [A, B, X, MADE]
        slots = ["x", "y", "v", A, B]
        for _ in range(400):
            every = [p(one, other) for one in values for other in values] + [q(one) for one in values]
            facts = chance.sample(every, chance.randint(0, 9))
            atoms = tuple([
                ("p", (chance.choice(slots), chance.choice(slots))) if chance.randint(0, 2) else
                ("q", (chance.choice(slots),)) for _ in range(chance.randint(1, 3))])
            start = {name: chance.choice(values) for name in ("x", "w") if chance.randint(0, 2) == 0}
            self.assert_as_by_trying(atoms, facts, start)

    def test_values_deeper_than_calls_may_nest(self):
        deep, same, other = A, A, B
        for _ in range(3000):
            deep, same, other = ("0.z", (deep,)), ("0.z", (same,)), ("0.z", (other,))
        self.assertIs(has_match((("q", ("x",)),), [q(deep)], {"x": same}), True)
        self.assertIs(has_match((("q", ("x",)),), [q(deep)], {"x": other}), False)
        found = facts_of((("q", ("x",)), ("p", ("x", "y"))), [q(other), q(deep), p(same, A), p(other, B)], {})
        self.assertEqual([chosen[1][1][1] for chosen in found], [A, B])

    def test_many_atoms(self):
        facts = [p(A, B), p(B, A), q(A)]
        atoms = tuple([("p", (f"x{at}", f"x{at + 1}")) for at in range(2000)])
        self.assertEqual(len(matches(atoms, facts, {})), 2)
        self.assertIs(has_match(atoms, facts, {"x0": A, "x2000": A}), True)
        self.assertIs(has_match(atoms, facts, {"x0": A, "x2000": B}), False)

    def test_many_facts(self):
        names = [(f"n{at}",) for at in range(3000)]
        facts = [p(one, other) for one, other in zip(names, names[1:])]
        atoms = (("p", ("x", "y")), ("p", ("y", "z")), ("p", ("z", "w")))
        self.assertEqual(len(matches(atoms, facts, {})), 2997)
        self.assertIs(has_match((("p", ("x", "y")), ("p", ("y", "x"))), facts, {}), False)

    def test_nothing_is_changed(self):
        facts = [p(B, B), q(A), p(A, B)]
        atoms = [("p", ("x", "y")), ("q", (A,)), ("p", ("y", "y"))]
        start = {"x": B, "w": X}
        before = copy.deepcopy((facts, atoms, start))
        matches(atoms, facts, start)
        has_match(atoms, facts, start)
        self.assertEqual((facts, atoms, start), before)

    def test_what_is_returned_is_not_shared(self):
        facts = [q(A), q(B)]
        start = {"w": C}
        first = matches((("q", ("x",)),), facts, start)
        kept = copy.deepcopy(first)
        second = matches((("q", ("x",)),), facts, start)
        second[0][0]["x"] = C
        second.append(None)
        self.assertEqual(first, kept)
        self.assertEqual(matches((("q", ("x",)),), facts, start), kept)
        first[0][0]["w"] = A
        self.assertEqual((start, first[1][0]), ({"w": C}, {"w": C, "x": B}))
        whole = matches((("q", (A,)),), facts, start)
        whole[0][0]["w"] = B
        self.assertEqual(start, {"w": C})


if __name__ == "__main__":
    unittest.main()
