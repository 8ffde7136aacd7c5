"""Points [1], [30] to [34]: positions, arcs, ranks, rings, their judges, and the bound."""

import copy
import itertools
import pathlib
import random
import sys
import time
import unittest

sys.path.insert(0, str(pathlib.Path(__file__).resolve().parent))

from everytarget.chase import chased
from everytarget.ends import arcs, greatest_rank, judge_ranks, judge_ring, most_values, positions, ranks, ring
from everytarget.errors import NotValid
from everytarget.values import depth, is_program
from naive import all_arcs, has_ring, some_case, some_free_program

A = ("a",)
# a(x) -> b(x, z)
FIRST = ("make", (("a", ("x",)),), (("b", ("x", "z")),))
# b(x, y) -> b(y, z)
ROUND = ("make", (("b", ("x", "y")),), (("b", ("y", "z")),))
EXAMPLE = {"source": {"a": 1}, "target": {"b": 2}, "rules": (FIRST,)}
CIRCLE = {"source": {"a": 1}, "target": {"b": 2}, "rules": (FIRST, ROUND)}
EMPTY = {"source": {}, "target": {}, "rules": ()}
# b(x, y) -> c(y), c(x) -> b(x, z): a ring of two arcs
TWO = {"source": {"a": 1}, "target": {"b": 2, "c": 1}, "rules": (
    ("make", (("b", ("x", "y")),), (("c", ("y",)),)), ("make", (("c", ("x",)),), (("b", ("x", "z")),)))}
TWO_RING = [("making", ("c", 0), ("b", 1)), ("plain", ("b", 1), ("c", 0))]


class AlwaysEqual:
    """Equal to everything, and without a hash."""

    def __eq__(self, other):
        return True


class EqualAndHashed:
    """Equal to everything, with the hash of a position."""

    def __eq__(self, other):
        return True

    def __hash__(self):
        return hash(("b", 1))


def program(*rules):
    return {"source": {"a": 1, "e": 2}, "target": {"b": 2, "c": 1, "d": 3}, "rules": rules}


class Positions(unittest.TestCase):
    def test_all_places_of_all_relations_ascending(self):
        self.assertEqual(positions(EXAMPLE), [("a", 0), ("b", 0), ("b", 1)])
        mixed = {"source": {"z": 1, "b": 2}, "target": {"c": 4, "a": 1, "b1": 1}, "rules": ()}
        self.assertEqual(positions(mixed), [
            ("a", 0), ("b", 0), ("b", 1), ("b1", 0), ("c", 0), ("c", 1), ("c", 2), ("c", 3), ("z", 0)])

    def test_no_relations(self):
        self.assertEqual(positions(EMPTY), [])
        self.assertEqual(arcs(EMPTY), [])


class Arcs(unittest.TestCase):
    def assert_arcs(self, rules, plain, making):
        told = program(*rules)
        self.assertTrue(is_program(told))
        self.assertEqual(
            arcs(told), sorted([("plain", *arc) for arc in plain] + [("making", *arc) for arc in making]))

    def test_a_rule_with_a_made_variable(self):
        self.assert_arcs([FIRST], [(("a", 0), ("b", 0))], [(("a", 0), ("b", 1))])
        self.assertEqual(arcs(CIRCLE), [
            ("making", ("a", 0), ("b", 1)), ("making", ("b", 1), ("b", 1)),
            ("plain", ("a", 0), ("b", 0)), ("plain", ("b", 1), ("b", 0))])

    def test_variables_in_several_places(self):
        rule = ("make", (("e", ("x", "x")), ("a", ("x",))), (("b", ("x", "z")), ("d", ("z", "x", "z"))))
        begins = [("a", 0), ("e", 0), ("e", 1)]
        self.assert_arcs(
            [rule], itertools.product(begins, [("b", 0), ("d", 1)]),
            itertools.product(begins, [("b", 1), ("d", 0), ("d", 2)]))

    def test_variables_that_are_not_in_the_head_have_no_arcs(self):
        rule = ("make", (("e", ("x", "y")), ("a", ("y",))), (("b", ("x", "z")),))
        self.assert_arcs([rule], [(("e", 0), ("b", 0))], [(("e", 0), ("b", 1))])

    def test_several_made_variables(self):
        rule = ("make", (("e", ("x", "y")),), (("d", ("z", "y", "w")), ("b", ("w", "x"))))
        self.assert_arcs(
            [rule], [(("e", 0), ("b", 1)), (("e", 1), ("d", 1))],
            itertools.product([("e", 0), ("e", 1)], [("d", 0), ("d", 2), ("b", 0)]))

    def test_a_rule_whose_frontier_is_empty(self):
        self.assert_arcs([("make", (("e", ("x", "y")),), (("b", ("z", "w")),))], [], [])
        self.assert_arcs([("make", (("e", ("x", "y")),), (("c", (A,)),))], [], [])

    def test_a_rule_without_made_variables(self):
        self.assert_arcs(
            [("make", (("b", ("x", "y")),), (("b", ("y", "x")),))], [(("b", 0), ("b", 1)), (("b", 1), ("b", 0))], [])

    def test_constants_have_no_arcs(self):
        rule = ("make", (("e", ("x", A)),), (("d", (A, "x", "z")), ("c", (("x",),))))
        self.assert_arcs([rule], [(("e", 0), ("d", 1))], [(("e", 0), ("d", 2))])

    def test_same_rules_have_none(self):
        self.assert_arcs([("same", (("b", ("x", "y")), ("b", ("y", "x"))), "x", "y")], [], [])

    def test_each_once_over_several_rules(self):
        self.assertEqual(arcs(program(FIRST, FIRST)), arcs(program(FIRST)))
        found = arcs(program(FIRST, ROUND, ("make", (("a", ("y",)), ("a", ("v",))), (("b", ("y", "w")),))))
        self.assertEqual(found, arcs(program(FIRST, ROUND)))

    def test_against_trying_all_pairs(self):
        chance = random.Random(30)
        for _ in range(300):
            told = some_free_program(chance)
            self.assertTrue(is_program(told))
            self.assertEqual(arcs(told), all_arcs(told))


class Ranks(unittest.TestCase):
    def assert_ranks(self, told, found):
        self.assertEqual(ranks(told), found)
        self.assertIsNone(ring(told))
        self.assertIs(judge_ranks(told, found), True)
        self.assertEqual(greatest_rank(told), max(found.values(), default=0))
        for value in ranks(told).values():
            self.assertIs(type(value), int)

    def test_the_example_of_the_document(self):
        self.assert_ranks(EXAMPLE, {("a", 0): 0, ("b", 0): 0, ("b", 1): 1})
        self.assertIsNone(ranks(CIRCLE))
        self.assertEqual(ring(CIRCLE), [("making", ("b", 1), ("b", 1))])

    def test_no_relations_and_no_rules(self):
        self.assert_ranks(EMPTY, {})
        self.assertEqual(greatest_rank(EMPTY), 0)
        self.assert_ranks({**EXAMPLE, "rules": ()}, {("a", 0): 0, ("b", 0): 0, ("b", 1): 0})

    def test_made_positions_without_a_frontier_have_rank_1(self):
        rule = ("make", (("e", ("x", "y")),), (("b", ("z", A)),))
        self.assert_ranks(program(rule), {
            ("a", 0): 0, ("b", 0): 1, ("b", 1): 0, ("c", 0): 0, ("d", 0): 0, ("d", 1): 0, ("d", 2): 0, ("e", 0): 0,
            ("e", 1): 0})
        behind = ("make", (("b", ("x", "y")),), (("d", ("x", "y", "z")),))
        self.assert_ranks(program(rule, behind), {
            ("a", 0): 0, ("b", 0): 1, ("b", 1): 0, ("c", 0): 0, ("d", 0): 1, ("d", 1): 0, ("d", 2): 2, ("e", 0): 0,
            ("e", 1): 0})

    def test_a_rule_without_frontier_may_make_from_what_it_makes(self):
        rule = ("make", (("b", ("x", "y")),), (("b", ("z", "w")),))
        self.assert_ranks({**EXAMPLE, "rules": (rule,)}, {("a", 0): 0, ("b", 0): 1, ("b", 1): 1})

    def test_ranks_grow_along_chains(self):
        rules = (
            FIRST,
            ("make", (("b", ("x", "y")),), (("d", ("y", "x", "z")),)),
            ("make", (("d", ("x", "y", "v")),), (("c", ("v",)), ("f", ("x", "v", "z")))),
            ("make", (("c", ("x",)),), (("g", ("x", "z")),)))
        told = {"source": {"a": 1}, "target": {"b": 2, "c": 1, "d": 3, "f": 3, "g": 2}, "rules": rules}
        self.assert_ranks(told, {
            ("a", 0): 0, ("b", 0): 0, ("b", 1): 1, ("c", 0): 2, ("d", 0): 1, ("d", 1): 0, ("d", 2): 2, ("f", 0): 1,
            ("f", 1): 2, ("f", 2): 3, ("g", 0): 2, ("g", 1): 3})
        self.assert_ranks({**told, "rules": rules[::-1]}, ranks(told))

    def test_rings_of_plain_arcs_alone_are_none(self):
        turn = ("make", (("b", ("x", "y")),), (("b", ("y", "x")),))
        self.assert_ranks({**EXAMPLE, "rules": (turn,)}, {("a", 0): 0, ("b", 0): 0, ("b", 1): 0})
        self.assert_ranks({**EXAMPLE, "rules": (FIRST, turn)}, {("a", 0): 0, ("b", 0): 1, ("b", 1): 1})

    def test_a_making_arc_beside_a_plain_ring(self):
        rules = (
            ("make", (("b", ("x", "y")),), (("b", ("y", "x")),)), ("make", (("b", ("x", "y")),), (("c", ("z",)), ("d", ("x", "x", "y")))))
        self.assert_ranks(program(*rules), {
            ("a", 0): 0, ("b", 0): 0, ("b", 1): 0, ("c", 0): 1, ("d", 0): 0, ("d", 1): 0, ("d", 2): 0, ("e", 0): 0,
            ("e", 1): 0})

    def test_the_least_ones_of_all_right_ranks(self):
        chance = random.Random(31)
        many = 0
        while many < 60:
            names = chance.sample(["x", "y", "z"], 3)
            rules = []
            for _ in range(chance.randint(1, 3)):
                body = (("b", (names[0], chance.choice(names))),) if chance.randint(0, 1) else (("a", ("x",)),)
                rules.append(("make", body, ((chance.choice([("b", ("x", "z")), ("c", ("y",)), ("b", ("y", "x"))])),)))
            told = {"source": {"a": 1}, "target": {"b": 2, "c": 1}, "rules": tuple(rules)}
            every = positions(told)
            right = [
                worths for worths in itertools.product(range(4), repeat=4)
                if judge_ranks(told, dict(zip(every, worths)))]
            if ranks(told) is None:
                # Four positions can need ranks up to 4 without a ring, but then there would be right ones too.
                self.assertEqual(right, [])
                self.assertTrue(has_ring(told))
            else:
                self.assertEqual(tuple(ranks(told).values()), tuple([min(column) for column in zip(*right)]))
                many += 1

    def test_exactly_one_of_ranks_and_ring_is_none(self):
        chance = random.Random(32)
        kinds = []
        for _ in range(500):
            told = some_free_program(chance)
            found, circle = ranks(told), ring(told)
            self.assertEqual(found is None, has_ring(told))
            self.assertEqual(circle is None, not has_ring(told))
            kinds.append(found is None)
            if circle is None:
                self.assertEqual(list(found), positions(told))
                self.assertIs(judge_ranks(told, found), True)
                for place in found:
                    for less in range(found[place]):
                        self.assertIs(judge_ranks(told, {**found, place: less}), False)
            else:
                self.assertIs(judge_ring(told, circle), True)
        self.assertGreater(kinds.count(True), 50)
        self.assertGreater(kinds.count(False), 50)


class Rings(unittest.TestCase):
    def test_rings_of_one_arc_and_of_several(self):
        self.assertEqual(ring(TWO), TWO_RING)
        for told in (CIRCLE, TWO):
            self.assertIsInstance(ring(told), list)
            for arc in ring(told):
                self.assertIn(arc, arcs(told))
            self.assertIs(judge_ring(told, ring(told)), True)
            self.assertIsNone(ranks(told))

    def test_a_long_ring(self):
        names = [f"n{at}" for at in range(30)]
        rules = [("make", ((one, ("x",)),), ((other, ("x",)),)) for one, other in zip(names, names[1:])]
        told = {"source": {}, "target": {name: 1 for name in names}, "rules": tuple(rules)}
        self.assertIsNone(ring({**told, "rules": tuple(rules) + (("make", ((names[-1], ("x",)),), ((names[0], ("x",)),)),)}))
        further = ("make", ((names[-1], ("x",)),), (("m", ("x", "z")), (names[0], ("z",))))
        told = {**told, "target": {**told["target"], "m": 2}, "rules": tuple(rules) + (further,)}
        self.assertEqual(len(ring(told)), 30)
        self.assertIs(judge_ring(told, ring(told)), True)

    def test_a_ring_through_a_rule_of_several_atoms(self):
        # c(x), b(x, y) -> d(y, z, z) and d(x, y, v) -> c(y)
        rules = (
            ("make", (("c", ("x",)), ("b", ("x", "y"))), (("d", ("y", "z", "z")),)),
            ("make", (("d", ("x", "y", "v")),), (("c", ("y",)),)))
        self.assertIsNone(ring(program(*rules)))
        wider = (("make", rules[0][1], (("d", ("y", "z", "x")),)), rules[1])
        self.assertIs(judge_ring(program(*wider), ring(program(*wider))), True)


NO_RANKS_AND_NO_RINGS = [
    None, 0, 1, -1, 2.5, True, False, "", "making", b"a", (), [], ((),), ("making", ("b", 1), ("b", 1)), {0: 0}, {"a": 0},
    {None: 0}, {(): 0}, {("a",): 0}, set(), object(), AlwaysEqual(), EqualAndHashed(), len, int, NotImplemented, range(3),
    [None], [0], [True], ["making"], [[]], [()], [{}], [set()], [("making",)], [("making", ("b", 1))], [AlwaysEqual()],
    [("making", None, None)], [("making", 1, 1)], [("making", "b", "b")], [("making", ("b",), ("b",))],
    [(AlwaysEqual(), ("b", 1), ("b", 1))], [("making", AlwaysEqual(), AlwaysEqual())],
    [("making", EqualAndHashed(), EqualAndHashed())], [("making", ("b", AlwaysEqual()), ("b", 1))], [([], ("b", 1), ("b", 1))],
    [("making", ("b", 1), [])], [("making", [], ("b", 1))], [("making", ("b", 1), ([], 1))],
    [("making", ({}, 1), ("b", 1))], [("making", ("b", []), ("b", 1))], [("making", ("b", 1), ("b", {}))],
]


class JudgeOfRanks(unittest.TestCase):
    def assert_no_ranks(self, told, value):
        self.assertIs(judge_ranks(told, value), False)

    def test_greater_ranks_are_right_too(self):
        self.assertIs(judge_ranks(EXAMPLE, {("a", 0): 0, ("b", 0): 5, ("b", 1): 10 ** 30}), True)
        self.assertIs(judge_ranks(EXAMPLE, {("b", 1): 8, ("b", 0): 7, ("a", 0): 7}), True)
        self.assertIs(judge_ranks(EMPTY, {}), True)

    def test_each_condition_broken_alone(self):
        # The end of a plain arc is less, that of a making arc is no greater, a made position has 0.
        self.assert_no_ranks(EXAMPLE, {("a", 0): 1, ("b", 0): 0, ("b", 1): 2})
        self.assert_no_ranks(EXAMPLE, {("a", 0): 1, ("b", 0): 1, ("b", 1): 1})
        self.assert_no_ranks(EXAMPLE, {("a", 0): 0, ("b", 0): 0, ("b", 1): 0})
        told = {**EXAMPLE, "rules": (("make", (("a", ("x",)),), (("b", ("z", A)),)),)}
        self.assertIs(judge_ranks(told, {("a", 0): 5, ("b", 0): 1, ("b", 1): 0}), True)
        self.assert_no_ranks(told, {("a", 0): 0, ("b", 0): 0, ("b", 1): 0})
        self.assert_no_ranks(told, {("a", 0): 0, ("b", 0): 0, ("b", 1): 5})

    def test_no_ranks_are_right_where_there_is_a_ring(self):
        for worths in itertools.product(range(5), repeat=3):
            self.assert_no_ranks(CIRCLE, dict(zip(positions(CIRCLE), worths)))
            self.assert_no_ranks(TWO, dict(zip(positions(TWO), (0,) + worths)))

    def test_just_the_positions_are_keys(self):
        good = {("a", 0): 0, ("b", 0): 0, ("b", 1): 1}
        for place in good:
            self.assert_no_ranks(EXAMPLE, {key: good[key] for key in good if key != place})
        for key in (("b", 2), ("c", 0), ("a", 1), ("a", -1), ("b",), ("b", 0, 0), "b", 0, None, (), ("b", "0"), (0, "b")):
            self.assert_no_ranks(EXAMPLE, {**good, key: 1})
            self.assert_no_ranks(EXAMPLE, {("a", 0): 0, ("b", 0): 0, key: 1})
        self.assert_no_ranks(EMPTY, good)
        self.assert_no_ranks(EXAMPLE, {})

    def test_keys_that_are_equal_to_positions_only_in_a_dict(self):
        self.assert_no_ranks(EXAMPLE, {("a", False): 0, ("b", 0): 0, ("b", 1): 1})
        self.assert_no_ranks(EXAMPLE, {("a", 0): 0, ("b", 0): 0, ("b", True): 1})
        self.assert_no_ranks(EXAMPLE, {("a", 0): 0, ("b", 0): 0, ("b", 1.0): 1})
        self.assert_no_ranks(EXAMPLE, {("a", 0): 0, ("b", 0): 0, EqualAndHashed(): 1})

    def test_ranks_that_are_no_integers_of_at_least_0(self):
        for worth in (None, "1", 1.0, 2.5, -1, True, False, (), (1,), [1], {}, AlwaysEqual(), object()):
            self.assert_no_ranks(EXAMPLE, {("a", 0): 0, ("b", 0): 0, ("b", 1): worth})
            self.assert_no_ranks(EXAMPLE, {("a", 0): worth, ("b", 0): 9, ("b", 1): 9})
        loose = {"source": {"a": 1}, "target": {}, "rules": ()}
        self.assertIs(judge_ranks(loose, {("a", 0): 0}), True)
        self.assert_no_ranks(loose, {("a", 0): -1})
        self.assert_no_ranks(loose, {("a", 0): True})

    def test_any_other_value(self):
        for value in NO_RANKS_AND_NO_RINGS:
            for told in (EXAMPLE, CIRCLE, EMPTY):
                self.assert_no_ranks(told, value)
        self.assert_no_ranks(EXAMPLE, [("a", 0), ("b", 0), ("b", 1)])
        self.assert_no_ranks(EXAMPLE, list(ranks(EXAMPLE).items()))


class JudgeOfRings(unittest.TestCase):
    def assert_no_ring(self, told, value):
        self.assertIs(judge_ring(told, value), False)

    def test_rings_begin_anywhere_and_may_go_round_twice(self):
        self.assertIs(judge_ring(TWO, TWO_RING), True)
        self.assertIs(judge_ring(TWO, TWO_RING[::-1]), True)
        self.assertIs(judge_ring(TWO, TWO_RING * 3), True)
        self.assertIs(judge_ring(CIRCLE, [("making", ("b", 1), ("b", 1))] * 2), True)

    def test_each_condition_broken_alone(self):
        making, plain = TWO_RING
        self.assert_no_ring(TWO, [making])
        self.assert_no_ring(TWO, [plain])
        self.assert_no_ring(TWO, [making, making])
        self.assert_no_ring(TWO, [making, plain, making])
        self.assert_no_ring(TWO, [("plain", ("c", 0), ("b", 1)), plain])
        self.assert_no_ring(TWO, [making, ("making", ("b", 1), ("c", 0))])
        self.assert_no_ring(TWO, [("making", ("c", 0), ("b", 0)), ("plain", ("b", 0), ("c", 0))])
        self.assert_no_ring(EXAMPLE, [("making", ("b", 1), ("b", 1))])
        self.assert_no_ring(CIRCLE, [("plain", ("b", 1), ("b", 0))])
        self.assert_no_ring(CIRCLE, [("making", ("b", 1), ("b", 1)), ("plain", ("b", 1), ("b", 0))])
        self.assert_no_ring(CIRCLE, [("making", ("a", 0), ("b", 1)), ("making", ("b", 1), ("b", 1))])

    def test_rings_of_plain_arcs_alone(self):
        told = {**EXAMPLE, "rules": (("make", (("b", ("x", "y")),), (("b", ("y", "x")),)), FIRST)}
        circle = [("plain", ("b", 0), ("b", 1)), ("plain", ("b", 1), ("b", 0))]
        for arc in circle:
            self.assertIn(arc, arcs(told))
        self.assert_no_ring(told, circle)

    def test_the_empty_list(self):
        for told in (EXAMPLE, CIRCLE, TWO, EMPTY):
            self.assert_no_ring(told, [])

    def test_another_form_of_the_same(self):
        arc = ("making", ("b", 1), ("b", 1))
        self.assertIs(judge_ring(CIRCLE, [arc]), True)
        for value in (
                (arc,), {arc: True}, {0: arc}, arc, [list(arc)], [("making", ["b", 1], ("b", 1))], [[arc]], [(arc,)],
                [arc, None], [arc, []], [("making", ("b", True), ("b", True))], [("making", ("b", 1.0), ("b", 1.0))],
                [("making", ("b", 1), ("b", 1), ())], [("Making", ("b", 1), ("b", 1))], [("making", ("b", "1"), ("b", "1"))],
                [("making", ("b", -1), ("b", -1))], [("making", ("b", 1, 0), ("b", 1, 0))], iter([arc])):
            self.assert_no_ring(CIRCLE, value)

    def test_any_other_value(self):
        for value in NO_RANKS_AND_NO_RINGS + [{}, {("b", 1): 0}]:
            for told in (EXAMPLE, TWO, EMPTY):
                self.assert_no_ring(told, value)


class GreatestRank(unittest.TestCase):
    def test_where_there_is_a_ring(self):
        for told in (CIRCLE, TWO):
            self.assertRaises(NotValid, greatest_rank, told)
            for constants in (0, 1, 5):
                self.assertRaises(NotValid, most_values, told, constants)

    def test_where_there_is_none(self):
        self.assertEqual(greatest_rank(EXAMPLE), 1)
        self.assertEqual(greatest_rank({**EXAMPLE, "rules": ()}), 0)
        self.assertEqual(greatest_rank(EMPTY), 0)


class MostValues(unittest.TestCase):
    def assert_bound(self, told, constants, bound):
        self.assertEqual(most_values(told, constants), bound)
        self.assertIs(type(most_values(told, constants)), int)

    def test_greatest_rank_0(self):
        for told in (EMPTY, {**EXAMPLE, "rules": ()}, program(("make", (("e", ("x", "y")),), (("b", ("y", "x")),)))):
            for constants in (0, 1, 2, 7, 10 ** 12):
                self.assert_bound(told, constants, constants)

    def test_greatest_rank_1(self):
        for constants in (0, 1, 2, 7, 10 ** 12):
            self.assert_bound(EXAMPLE, constants, constants + constants)

    def test_two_frontier_variables_and_two_made_variables(self):
        rule = ("make", (("e", ("x", "y")),), (("d", ("x", "z", "w")), ("c", ("y",))))
        for constants in (0, 1, 2, 7, 10 ** 12):
            self.assert_bound(program(rule), constants, constants + 2 * constants ** 2)

    def test_no_frontier_variables(self):
        rule = ("make", (("e", ("x", "y")),), (("d", ("v", "z", "w")),))
        for constants in (0, 1, 2, 10 ** 12):
            self.assert_bound(program(rule), constants, constants + 3)

    def test_greatest_rank_2(self):
        rules = (FIRST, ("make", (("b", ("x", "y")),), (("d", ("x", "y", "z")),)))
        for constants in (0, 1, 2, 3, 10 ** 12):
            first = constants + constants + constants ** 2
            self.assert_bound(program(*rules), constants, constants + first + first ** 2)

    def test_greatest_rank_3_with_several_rules(self):
        rules = (
            ("make", (("a", ("x",)),), (("b", ("z", "w")),)),
            ("make", (("b", ("x", "y")),), (("d", ("x", "y", "z")),)),
            ("make", (("d", ("x", "y", "v")),), (("f", ("v", "z", "w")), ("c", ("x",)))),
            ("same", (("b", ("x", "y")),), "x", "y"),
            ("make", (("c", ("x",)),), (("c", ("x",)),)))
        told = program(*rules)
        told["target"]["f"] = 3
        self.assertEqual(greatest_rank(told), 3)
        for constants in (0, 1, 2, 10 ** 12):
            bound = constants
            for _ in range(3):
                bound = constants + 2 + bound ** 2 + 2 * bound ** 2
            self.assert_bound(told, constants, bound)

    def test_the_frontier_is_that_of_the_rule_of_the_made_variable(self):
        rules = (FIRST, ("make", (("e", ("x", "y")),), (("d", ("x", "y", "x")),)))
        self.assert_bound(program(*rules), 5, 10)

    def test_the_bound_and_the_depths_hold_in_outcomes(self):
        chance = random.Random(34)
        many = 0
        for _ in range(300):
            told = some_case(chance)
            kind, facts = chased(*told)
            found = ranks(told[0])
            if kind == "target":
                many += 1
                values = {value for _, parts in facts for value in parts}
                named = {value for _, parts in told[1] + told[2] for value in parts}
                for rule in told[0]["rules"]:
                    for _, slots in rule[1] + (rule[2] if rule[0] == "make" else ()):
                        named |= {slot for slot in slots if isinstance(slot, tuple)}
                self.assertLessEqual(len(values), most_values(told[0], len(named)))
                for relation, parts in facts:
                    for at, value in enumerate(parts):
                        self.assertLessEqual(depth(value), found[(relation, at)])
        self.assertGreater(many, 150)


class Unchanged(unittest.TestCase):
    def test_nothing_that_is_passed_is_changed(self):
        circle, found = list(TWO_RING), ranks(EXAMPLE)
        before = copy.deepcopy((EXAMPLE, TWO, circle, found))
        for told in (EXAMPLE, TWO):
            positions(told), arcs(told), ranks(told), ring(told)
            judge_ranks(told, found), judge_ring(told, circle)
        most_values(EXAMPLE, 3)
        self.assertEqual((EXAMPLE, TWO, circle, found), before)

    def test_what_is_returned_is_the_callers_own(self):
        for function, told in ((positions, TWO), (arcs, TWO), (ring, TWO), (ranks, EXAMPLE)):
            found = function(told)
            before = copy.deepcopy(found)
            found.clear()
            self.assertEqual(function(told), before)


class Large(unittest.TestCase):
    def test_long_chains(self):
        names = [f"n{at}" for at in range(300)]
        rules = tuple([("make", ((one, ("x", "y")),), ((other, ("y", "z")),)) for one, other in zip(names, names[1:])])
        told = {"source": {names[0]: 2}, "target": {name: 2 for name in names[1:]}, "rules": rules[::-1]}
        begin = time.process_time()
        self.assertEqual(greatest_rank(told), 299)
        self.assertIs(judge_ranks(told, ranks(told)), True)
        self.assertLess(time.process_time() - begin, 5)


if __name__ == "__main__":
    unittest.main()
