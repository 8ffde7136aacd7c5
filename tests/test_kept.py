"""Points [1], [43] to [45]: keepers, islands, and what is chased anew."""

import copy
import pathlib
import random
import sys
import time
import unittest
from unittest import mock

sys.path.insert(0, str(pathlib.Path(__file__).resolve().parent))

import naive
from everytarget import kept
from everytarget.chase import chased
from everytarget.errors import NotValid, TargetError
from everytarget.kept import Keeper, islands, parts_in_islands
from everytarget.values import is_book, is_program

A = ("a",)
B = ("b",)
C = ("c",)
D = ("d",)
F = ("f",)
# p(x) -> q(x, z)
SIMPLE = ("make", (("p", ("x",)),), (("q", ("x", "z")),))
# e(x, y) -> q(x, y)
COPY = ("make", (("e", ("x", "y")),), (("q", ("x", "y")),))
# q(x, y), q(x, v) -> y = v
SINGLE = ("same", (("q", ("x", "y")), ("q", ("x", "v"))), "y", "v")
# q(x, y), q(v, y) -> x = v
KEY = ("same", (("q", ("x", "y")), ("q", ("v", "y"))), "x", "v")
# q(x, y) -> u(x, y, w)
WIDE = ("make", (("q", ("x", "y")),), (("u", ("x", "y", "w")),))
# p(x), r(v) -> q(x, v)
PAIRS = ("make", (("p", ("x",)), ("r", ("v",))), (("q", ("x", "v")),))


def z(*values):
    return ("0.z", values)


def program(*rules):
    return {"source": {"p": 1, "r": 1, "e": 2}, "target": {"q": 2, "t": 1, "u": 3}, "rules": rules}


def p(value):
    return ("p", (value,))


def r(value):
    return ("r", (value,))


def e(one, other):
    return ("e", (one, other))


def q(one, other):
    return ("q", (one, other))


def book(*facts):
    return tuple(sorted(facts))


class PartsInIslands(unittest.TestCase):
    def assert_parted(self, expected, *rules):
        self.assertTrue(is_program(program(*rules)))
        self.assertIs(parts_in_islands(program(*rules)), expected)
        # One rule is enough to keep all together, wherever it stands.
        self.assertIs(parts_in_islands(program(COPY, *rules, SINGLE)), expected)

    def test_programs_that_are_parted(self):
        self.assert_parted(True)
        self.assert_parted(True, SIMPLE)
        self.assert_parted(True, SIMPLE, COPY, SINGLE, KEY, WIDE)
        self.assert_parted(True, ("make", (("e", ("x", "y")), ("e", ("y", "v")), ("p", ("v",))), (("q", ("x", "z")),)))
        self.assert_parted(True, ("make", (("e", ("x", "y")),), (("u", ("z", "w", "y")), ("t", ("z",)))))
        self.assert_parted(True, ("same", (("u", ("x", "y", "v")),), "x", "v"))

    def test_a_body_that_is_not_linked(self):
        self.assert_parted(False, PAIRS)
        self.assert_parted(False, ("make", (("p", ("x",)), ("p", ("y",))), (("q", ("x", "y")),)))
        self.assert_parted(False, ("make", (("p", ("x",)), ("p", ("y",))), (("t", ("x",)),)))
        self.assert_parted(False, ("make", (("q", ("x", "y")), ("t", ("v",))), (("t", ("x",)),)))
        self.assert_parted(False, ("same", (("t", ("x",)), ("t", ("y",))), "x", "y"))
        self.assert_parted(False, ("same", (("q", ("x", "y")), ("t", ("v",))), "x", "y"))
        two = (("e", ("x", "y")), ("e", ("v", "w")), ("e", ("y", "x")), ("e", ("w", "v")))
        self.assert_parted(False, ("make", two, (("q", ("x", "w")),)))

    def test_a_body_that_is_linked_through_others(self):
        body = (("e", ("x", "y")), ("e", ("v", "w")), ("e", ("y", "k")), ("e", ("w", "k")))
        self.assert_parted(True, ("make", body, (("q", ("x", "v")),)))
        self.assert_parted(False, ("make", body[:3], (("q", ("x", "v")),)))
        self.assert_parted(True, ("make", (("p", ("x",)), ("r", ("x",)), ("p", ("x",))), (("t", ("x",)),)))
        # A head does not link a body.
        self.assert_parted(False, ("make", (("p", ("x",)), ("r", ("y",))), (("q", ("x", "y")), ("q", ("y", "x")))))

    def test_a_rule_that_names_a_constant(self):
        self.assert_parted(False, ("make", (("e", ("x", A)),), (("t", ("x",)),)))
        self.assert_parted(False, ("make", (("p", ("x",)),), (("q", ("x", A)),)))
        self.assert_parted(False, ("make", (("p", ("x",)),), (("t", ("x",)), ("t", (A,)))))
        self.assert_parted(False, ("same", (("u", ("x", "y", A)),), "x", "y"))
        self.assert_parted(False, ("make", (("p", (A,)),), (("t", (A,)),)))

    def test_a_make_rule_without_a_frontier_variable(self):
        self.assert_parted(False, ("make", (("p", ("x",)),), (("t", ("z",)),)))
        self.assert_parted(False, ("make", (("q", ("x", "y")),), (("q", ("z", "w")),)))


class Islands(unittest.TestCase):
    def assert_islands(self, source, *found):
        self.assertEqual(islands(program(COPY, SINGLE), book(*source)), [book(*group) for group in found])
        self.assertEqual(islands(program(), book(*source)), [book(*group) for group in found])
        # Not parted: one island, if there is any fact.
        for rules in ((PAIRS,), (COPY, ("make", (("p", (A,)),), (("t", (A,)),)))):
            self.assertEqual(islands(program(*rules), book(*source)), [book(*source)] if source else [])

    def test_the_empty_source_has_none(self):
        self.assert_islands([])

    def test_facts_that_share_a_constant(self):
        self.assert_islands([p(A)], [p(A)])
        self.assert_islands([p(A), r(A)], [p(A), r(A)])
        self.assert_islands([p(A), p(B)], [p(A)], [p(B)])
        self.assert_islands([e(A, B), e(B, C)], [e(A, B), e(B, C)])
        self.assert_islands([e(A, B), e(C, B)], [e(A, B), e(C, B)])
        self.assert_islands([e(A, B), e(C, D)], [e(A, B)], [e(C, D)])

    def test_facts_that_share_constants_through_others(self):
        self.assert_islands([e(A, B), e(C, D), e(D, B)], [e(A, B), e(C, D), e(D, B)])
        self.assert_islands([e(A, B), e(C, D), e(B, F), p(F), r(D)], [e(A, B), e(B, F), p(F)], [e(C, D), r(D)])
        chain = [e((f"n{at}",), (f"n{at + 1}",)) for at in range(9)]
        self.assert_islands(chain, chain)
        self.assert_islands(chain[:4] + chain[5:], chain[:4], chain[5:])

    def test_the_order_of_islands_and_facts(self):
        self.assert_islands([p(A), e(B, B), e(C, A), p(D), r(B)], [e(B, B), r(B)], [e(C, A), p(A)], [p(D)])
        self.assert_islands([p(A), p(B), p(C), e(C, C)], [e(C, C), p(C)], [p(A)], [p(B)])

    def test_against_joining_groups(self):
        chance = random.Random(44)
        sizes = []
        for _ in range(300):
            source = naive.some_book(chance, {"p": 1, "e": 2}, [(name,) for name in "abcdefghij"], 8)
            found = islands(program(COPY), source)
            self.assertEqual(found, naive.parted_source(source))
            self.assertTrue(all(is_book(island, {"p": 1, "e": 2}) for island in found))
            self.assertEqual(found, sorted(found))
            sizes.append(len(found))
        self.assertGreater(max(sizes), 3)

    def test_what_is_passed_stays_and_what_is_returned_is_the_callers_own(self):
        told, source = program(COPY), book(e(A, B), p(C))
        before = copy.deepcopy((told, source))
        found = islands(told, source)
        found.clear()
        self.assertEqual((told, source), before)
        self.assertEqual(islands(told, source), [(e(A, B),), (p(C),)])


class Case(unittest.TestCase):
    def assert_kept(self, keeper, told, *facts):
        source = book(*facts)
        self.assertEqual(keeper.source(), source)
        self.assertEqual(repr(keeper.outcome()), repr(chased(told, source, ())))


class Keepers(Case):
    def test_a_program_that_does_not_end(self):
        for rules in ((("make", (("q", ("x", "y")),), (("q", ("y", "z")),)),), (SIMPLE, WIDE, (
                "make", (("u", ("x", "y", "v")),), (("q", ("v", "x")),)))):
            for kind in (NotValid, TargetError, ValueError):
                self.assertRaises(kind, Keeper, program(*rules))
        Keeper(program(("make", (("q", ("x", "y")),), (("q", ("y", "x")),))))
        Keeper({"source": {}, "target": {}, "rules": ()})

    def test_an_empty_source(self):
        for rules in ((), (SIMPLE,), (PAIRS, KEY)):
            keeper = Keeper(program(*rules))
            self.assertEqual(keeper.source(), ())
            self.assertEqual(keeper.outcome(), ("target", ()))
            self.assertEqual(keeper.add([]), 0)
            self.assertEqual(keeper.take([]), 0)
            self.assertEqual(keeper.take([p(A)]), 0)
            self.assertEqual((keeper.source(), keeper.outcome()), ((), ("target", ())))

    def test_adding_and_taking(self):
        told = program(SIMPLE, COPY)
        keeper = Keeper(told)
        self.assertEqual(keeper.add([p(A)]), 1)
        self.assertEqual(keeper.outcome(), ("target", (q(A, z(A)),)))
        self.assertEqual(keeper.add([p(C), p(B)]), 2)
        self.assert_kept(keeper, told, p(A), p(B), p(C))
        self.assertEqual(keeper.take([p(A)]), 0)
        self.assert_kept(keeper, told, p(B), p(C))
        self.assertEqual(keeper.add([e(B, D)]), 1)
        self.assert_kept(keeper, told, p(B), p(C), e(B, D))
        self.assertEqual(keeper.take([p(B)]), 1)
        self.assert_kept(keeper, told, p(C), e(B, D))
        self.assertEqual(keeper.take([e(B, D), p(C)]), 0)
        self.assert_kept(keeper, told)

    def test_facts_that_are_there_and_facts_that_are_passed_twice(self):
        told = program(SIMPLE)
        keeper = Keeper(told)
        self.assertEqual(keeper.add([p(A), p(A), p(B), p(A)]), 2)
        self.assert_kept(keeper, told, p(A), p(B))
        self.assertEqual(keeper.add([p(A)]), 0)
        self.assertEqual(keeper.add([p(B), p(A), p(B)]), 0)
        self.assertEqual(keeper.add([p(B), p(C), p(A), p(C)]), 1)
        self.assert_kept(keeper, told, p(A), p(B), p(C))
        self.assertEqual(keeper.take([p(B), p(B)]), 0)
        self.assertEqual(keeper.take([p(B)]), 0)
        self.assert_kept(keeper, told, p(A), p(C))
        self.assertEqual(keeper.add([p(B)]), 1)

    def test_taking_facts_that_are_not_there(self):
        told = program(SIMPLE, COPY)
        keeper = Keeper(told)
        keeper.add([e(A, B), p(B)])
        self.assertEqual(keeper.take([p(A), r(B), e(B, A), p(C)]), 0)
        self.assert_kept(keeper, told, e(A, B), p(B))
        self.assertEqual(keeper.take([p(A), p(B)]), 1)
        self.assert_kept(keeper, told, e(A, B))

    def test_adding_that_joins_islands(self):
        told = program(COPY, WIDE)
        keeper = Keeper(told)
        self.assertEqual(keeper.add([e(A, A), e(B, B), e(C, C), e(D, D)]), 4)
        self.assertEqual(keeper.add([e(A, B)]), 1)
        self.assert_kept(keeper, told, e(A, A), e(B, B), e(C, C), e(D, D), e(A, B))
        self.assertEqual(keeper.add([e(A, C), p(F)]), 2)
        self.assertEqual(keeper.add([e(F, D), e(D, A)]), 1)
        self.assertEqual(len(islands(told, keeper.source())), 1)
        self.assert_kept(keeper, told, e(A, A), e(B, B), e(C, C), e(D, D), e(A, B), e(A, C), p(F), e(F, D), e(D, A))

    def test_taking_that_parts_an_island(self):
        told = program(COPY, WIDE)
        keeper = Keeper(told)
        self.assertEqual(keeper.add([e(A, B), e(B, C), e(C, D), p(F)]), 2)
        self.assertEqual(keeper.take([e(B, C)]), 2)
        self.assert_kept(keeper, told, e(A, B), e(C, D), p(F))
        self.assertEqual(keeper.add([e(B, C)]), 1)
        self.assertEqual(keeper.take([e(A, B)]), 1)
        self.assertEqual(keeper.take([e(B, C), e(C, D)]), 0)
        self.assert_kept(keeper, told, p(F))

    def test_islands_that_stay_are_not_chased_anew(self):
        told = program(COPY, WIDE)
        keeper = Keeper(told)
        keeper.add([e(A, B), p(C), e(D, D)])
        seen = []

        def watched(rules, source, known):
            seen.append((source, known))
            return chased(rules, source, known)

        with mock.patch.object(kept, "chased", watched):
            self.assertEqual(keeper.add([e(F, F)]), 1)
            self.assertEqual(keeper.add([p(A), e(C, D)]), 2)
            self.assertEqual(keeper.take([e(F, F), p(A)]), 1)
            self.assertEqual(keeper.add([e(A, B)]), 0)
            keeper.outcome(), keeper.source(), keeper.outcome()
        self.assertEqual(seen, [
            ((e(F, F),), ()), (book(e(A, B), p(A)), ()), (book(e(C, D), e(D, D), p(C)), ()), ((e(A, B),), ())])
        self.assert_kept(keeper, told, e(A, B), p(C), e(D, D), e(C, D))

    def test_a_clash_in_one_island(self):
        told = program(COPY, SINGLE)
        keeper = Keeper(told)
        self.assertEqual(keeper.add([e(A, B), e(C, C)]), 2)
        self.assertEqual(keeper.add([e(A, D)]), 1)
        self.assertEqual(keeper.outcome(), ("clash", ()))
        self.assert_kept(keeper, told, e(A, B), e(A, D), e(C, C))
        self.assertEqual(keeper.add([e(F, F)]), 1)
        self.assertEqual(keeper.outcome(), ("clash", ()))
        self.assertEqual(keeper.take([e(A, B)]), 1)
        self.assert_kept(keeper, told, e(A, D), e(C, C), e(F, F))
        self.assertEqual(keeper.outcome()[0], "target")
        self.assertEqual(keeper.add([e(A, B), e(C, F)]), 2)
        self.assertEqual(keeper.outcome(), ("clash", ()))
        self.assertEqual(keeper.take([e(A, B), e(A, D), e(C, C), e(F, F), e(C, F)]), 0)
        self.assertEqual(keeper.outcome(), ("target", ()))

    def test_programs_that_are_not_parted(self):
        told = program(PAIRS, SINGLE)
        keeper = Keeper(told)
        self.assertEqual(keeper.add([p(A), p(B)]), 1)
        self.assertEqual(keeper.outcome(), ("target", ()))
        self.assertEqual(keeper.add([r(C)]), 1)
        self.assertEqual(keeper.outcome(), ("target", book(q(A, C), q(B, C))))
        self.assertEqual(keeper.add([r(C), p(A)]), 0)
        self.assertEqual(keeper.add([r(D)]), 1)
        self.assertEqual(keeper.outcome(), ("clash", ()))
        self.assertEqual(keeper.take([r(C)]), 1)
        self.assert_kept(keeper, told, p(A), p(B), r(D))
        self.assertEqual(keeper.take([p(A), p(B), r(D)]), 0)
        self.assert_kept(keeper, told)

    def test_a_rule_without_frontier_makes_its_unknown_once(self):
        told = program(("make", (("p", ("x",)),), (("q", ("z", "z")),)))
        keeper = Keeper(told)
        self.assertEqual(keeper.add([p(A), p(B)]), 1)
        self.assertEqual(keeper.outcome(), ("target", (q(z(), z()),)))
        self.assertEqual(keeper.take([p(B)]), 1)
        self.assertEqual(keeper.outcome(), ("target", (q(z(), z()),)))


class Unchanged(Case):
    def test_the_lists_that_are_passed_stay_as_they_were(self):
        keeper = Keeper(program(SIMPLE))
        facts = [p(B), p(A), p(B)]
        keeper.add(facts)
        self.assertEqual(facts, [p(B), p(A), p(B)])
        gone = [p(C), p(B), p(B)]
        keeper.take(gone)
        self.assertEqual(gone, [p(C), p(B), p(B)])
        facts.append(p(D))
        gone.append(p(A))
        self.assertEqual(keeper.source(), (p(A),))

    def test_the_books_that_are_returned_are_not_changed_later(self):
        keeper = Keeper(program(SIMPLE))
        keeper.add([p(A)])
        source, outcome = keeper.source(), keeper.outcome()
        keeper.add([p(B)])
        keeper.take([p(A)])
        self.assertEqual((source, outcome), ((p(A),), ("target", (q(A, z(A)),))))
        self.assertIsInstance(source, tuple)
        self.assertIsInstance(outcome[1], tuple)

    def test_the_program_stays_as_it_was_and_may_change_later(self):
        told = program(SIMPLE)
        before = copy.deepcopy(told)
        keeper = Keeper(told)
        keeper.add([p(A)])
        self.assertEqual(told, before)
        told["target"].clear()
        told["rules"] = ()
        keeper.add([p(B)])
        self.assert_kept(keeper, before, p(A), p(B))

    def test_two_keepers(self):
        told = program(SIMPLE)
        one, other = Keeper(told), Keeper(told)
        one.add([p(A)])
        self.assertEqual(other.source(), ())
        self.assertEqual(other.add([p(A), p(B)]), 2)
        self.assertEqual(one.outcome(), ("target", (q(A, z(A)),)))


class Chance(Case):
    def test_deeds_by_chance(self):
        chance = random.Random(43)
        kinds, parted = [], []
        for _ in range(200):
            told, _, _ = naive.some_case(chance)
            keeper = Keeper(told)
            values = [(name,) for name in "abcd"]
            source = set()
            for _ in range(10):
                before = islands(told, tuple(sorted(source)))
                facts = list(naive.some_book(chance, naive.SOURCE, values, chance.randint(1, 3)))
                if chance.randint(0, 1):
                    found = keeper.add(facts)
                    source |= set(facts)
                else:
                    facts += chance.sample(sorted(source), min(len(source), chance.randint(0, 3)))
                    found = keeper.take(facts)
                    source -= set(facts)
                after = islands(told, tuple(sorted(source)))
                self.assertEqual(found, len([island for island in after if island not in before]))
                self.assert_kept(keeper, told, *source)
                kinds.append(keeper.outcome()[0])
            parted.append(parts_in_islands(told))
        self.assertGreater(kinds.count("clash"), 10)
        self.assertGreater(parted.count(True), 5)
        self.assertGreater(parted.count(False), 20)

    def test_parted_programs_by_chance(self):
        chance = random.Random(45)
        rules = [
            SIMPLE, COPY, SINGLE, KEY, WIDE, ("make", (("r", ("x",)),), (("q", ("w", "x")),)),
            ("make", (("e", ("x", "y")), ("r", ("y",))), (("u", ("x", "z", "w")), ("t", ("z",)))),
            ("same", (("u", ("x", "y", "v")), ("u", ("x", "k", "w"))), "y", "k")]
        values = [(name,) for name in "abcdef"]
        relations = {"p": 1, "r": 1, "e": 2}
        many = []
        for _ in range(200):
            told = program(*chance.sample(rules, chance.randint(1, 4)))
            self.assertIs(parts_in_islands(told), True)
            keeper = Keeper(told)
            source = set()
            for _ in range(10):
                facts = list(naive.some_book(chance, relations, values, 3))
                before = naive.parted_source(source)
                if chance.randint(0, 2):
                    found = keeper.add(facts)
                    source |= set(facts)
                else:
                    gone = chance.sample(sorted(source), len(source) // 2)
                    found = keeper.take(gone)
                    source -= set(gone)
                self.assertEqual(found, len([one for one in naive.parted_source(source) if one not in before]))
                self.assert_kept(keeper, told, *source)
                many.append(keeper.outcome()[0])
        self.assertGreater(many.count("clash"), 20)
        self.assertGreater(many.count("target"), 200)

    def test_many_islands(self):
        told = program(COPY, WIDE, SINGLE)
        keeper = Keeper(told)
        begin = time.process_time()
        self.assertEqual(keeper.add([e((f"n{at}",), (f"m{at}",)) for at in range(300)]), 300)
        for at in range(50):
            self.assertEqual(keeper.add([p((f"n{at}",))]), 1)
        self.assertEqual(len(keeper.outcome()[1]), 600)
        self.assertLess(time.process_time() - begin, 10)


if __name__ == "__main__":
    unittest.main()
