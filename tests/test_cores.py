"""Points [1], [40] to [42]: folds, the search for maps, cores, and books that are alike."""

import copy
import itertools
import pathlib
import random
import sys
import time
import unittest

sys.path.insert(0, str(pathlib.Path(__file__).resolve().parent))

import naive
from everytarget.chase import chased
from everytarget.cores import alike, core, find_map, fold
from everytarget.maps import image_of, judge_map, values_of
from everytarget.targets import is_target
from everytarget.values import is_book

A = ("a",)
B = ("b",)
C = ("c",)
X = ("?x",)
Y = ("?y",)
Z = ("?z",)
MADE = ("0.z", (A,))
OTHER_MADE = ("0.z", (B,))
RELATIONS = {"q": 2, "t": 1, "u": 3}


def q(one, other):
    return ("q", (one, other))


def t(value):
    return ("t", (value,))


def u(*values):
    return ("u", values)


def book(*facts):
    return tuple(sorted(facts))


def circle(names, both_ways=False):
    """The edges of a circle of unknowns, perhaps both ways."""
    pairs = [((f"?{one}",), (f"?{other}",)) for one, other in zip(names, names[1:] + names[:1])]
    return book(*{q(*pair) for pair in pairs} | ({q(*pair[::-1]) for pair in pairs} if both_ways else set()))


def complete(names):
    return book(*[q((f"?{one}",), (f"?{other}",)) for one, other in itertools.permutations(names, 2)])


class FindMap(unittest.TestCase):
    def assert_map(self, one, other, image):
        self.assertTrue(is_book(one, RELATIONS) and is_book(other, RELATIONS))
        self.assertEqual(find_map(one, other), image)
        self.assertEqual(naive.first_map(one, other), image)
        if image is not None:
            self.assertIs(judge_map(one, other, image), True)

    def test_books_without_unknowns(self):
        self.assert_map((), (), {})
        self.assert_map((), book(q(A, B)), {})
        self.assert_map(book(q(A, B)), book(q(A, B), t(C)), {A: A, B: B})
        self.assert_map(book(q(A, B)), book(q(B, A)), None)
        self.assert_map(book(q(A, B)), (), None)
        self.assert_map(book(q(A, B), t(A)), book(q(A, B)), None)

    def test_unknowns_may_go_to_any_value(self):
        for value in (A, X, Y, MADE, ("1.w", ())):
            for unknown in (X, Z, MADE, ("7.k", (X, A))):
                self.assert_map((t(unknown),), (t(value),), {unknown: value})

    def test_constants_go_to_themselves(self):
        self.assert_map(book(q(A, X)), book(q(A, B), q(C, C)), {A: A, X: B})
        self.assert_map(book(q(A, X)), book(q(B, B), q(C, C)), None)
        self.assert_map(book(q(A, X)), book(q(X, A)), None)

    def test_the_first_one_of_several(self):
        self.assert_map((t(X),), book(t(A), t(B), t(Y)), {X: Y})
        self.assert_map((t(X),), book(t(A), t(B), t(MADE)), {X: MADE})
        self.assert_map((t(X),), book(t(C), t(B)), {X: B})
        self.assert_map(book(q(X, Y), t(Y)), book(q(A, A), q(A, B), q(A, C), t(B), t(C)), {X: A, Y: B})
        self.assert_map(book(q(X, Y), t(X)), book(q(A, B), q(B, A), q(B, C), q(C, A), t(B), t(C)), {X: B, Y: A})

    def test_the_order_is_that_of_the_facts_and_not_of_the_values(self):
        # The first fact is that of y: x, which is the lesser value, has its image last.
        self.assert_map(book(q(A, Y), u(X, Y, Y)), book(q(A, B), q(A, C), u(A, C, C), u(C, B, B)), {A: A, X: C, Y: B})
        self.assert_map(book(q(Y, B), u(X, Y, X)), book(q(B, B), q(A, B), u(A, B, A), u(C, A, C)), {B: B, X: C, Y: A})
        self.assert_map(
            book(q(X, Y), q(Y, Z), t(Z)), book(q(A, C), q(B, A), q(C, A), q(A, B), t(A), t(B)), {X: A, Y: B, Z: A})

    def test_a_later_fact_may_exclude_the_first_choice(self):
        self.assert_map(book(q(X, Y), u(X, Y, Z)), book(q(A, B), q(B, C), u(B, C, A), u(B, A, C)), {X: B, Y: C, Z: A})
        self.assert_map(book(q(X, Y), u(X, Y, Y)), book(q(A, B), q(B, C), u(B, C, A), u(A, B, A)), None)

    def test_an_unknown_in_several_places_of_a_fact(self):
        self.assert_map((q(X, X),), book(q(A, B), q(B, A)), None)
        self.assert_map((q(X, X),), book(q(A, B), q(C, C)), {X: C})
        self.assert_map((u(X, Y, X),), book(u(A, B, C), u(A, C, A), u(B, A, B)), {X: A, Y: C})

    def test_made_unknowns_are_taken_as_a_whole(self):
        self.assert_map(book(q(A, MADE), t(MADE)), book(q(A, B), t(B)), {A: A, MADE: B})
        self.assert_map((t(("0.z", (X,))),), (t(("0.z", (A,))),), {("0.z", (X,)): MADE})
        self.assert_map(book(t(X), t(("0.z", (X,)))), book(t(A), t(MADE)), {X: MADE, ("0.z", (X,)): MADE})
        self.assert_map((q(MADE, OTHER_MADE),), (q(OTHER_MADE, MADE),), {MADE: OTHER_MADE, OTHER_MADE: MADE})

    def test_a_book_into_itself(self):
        for one in (book(t(X)), book(q(X, Y), q(Y, X)), book(q(A, X), q(X, B)), circle("xyz")):
            self.assertIsNotNone(find_map(one, one))
            self.assert_map(one, one, naive.first_map(one, one))

    def test_against_trying_all_images(self):
        chance = random.Random(41)
        kinds = []
        for _ in range(2500):
            one = naive.some_book(chance, naive.TARGET, [A, X, Y, Z, MADE, OTHER_MADE], chance.randint(1, 4))
            other = naive.some_book(chance, naive.TARGET, [A, B, X, MADE], chance.randint(3, 7))
            found = naive.first_map(one, other)
            self.assertEqual(find_map(one, other), found)
            if found is not None:
                self.assertEqual(list(find_map(one, other)), values_of(one))
            kinds.append(found is None)
        self.assertGreater(kinds.count(True), 500)
        self.assertGreater(kinds.count(False), 500)

    def test_books_of_three_places_against_trying_all_images(self):
        chance = random.Random(42)
        for _ in range(500):
            one = naive.some_book(chance, {"u": 3, "q": 2}, [A, X, Y, Z], chance.randint(2, 4))
            other = naive.some_book(chance, {"u": 3, "q": 2}, [A, X, MADE], chance.randint(5, 9))
            self.assertEqual(find_map(one, other), naive.first_map(one, other))


class Fold(unittest.TestCase):
    def assert_fold(self, one, image):
        self.assertTrue(is_book(one, RELATIONS))
        self.assertEqual(fold(one), image)
        self.assertEqual(naive.first_fold(one), image)
        if image is not None:
            self.assertIs(judge_map(one, one, image), True)
            self.assertLess(len(image_of(one, image)), len(one))

    def test_the_example_of_the_document(self):
        one = (("b", (("c",), ("?u",))), ("b", (("c",), ("d",))))
        self.assertEqual(fold(one), {("c",): ("c",), ("?u",): ("d",), ("d",): ("d",)})
        self.assertEqual(core(one), (("b", (("c",), ("d",))),))

    def test_books_without_a_fold(self):
        for one in (
                (), book(t(A)), book(t(A), t(B), q(A, B)), book(t(X)), book(q(X, Y)), book(q(A, X), q(B, Y)),
                book(q(X, A), q(A, X)), book(q(A, X), q(X, B)), book(q(A, X), t(X), q(A, B)), circle("xyz"),
                book(q(A, MADE), q(B, OTHER_MADE))):
            self.assert_fold(one, None)
            self.assertEqual(core(one), one)

    def test_the_first_fact_that_can_be_left_out(self):
        self.assert_fold(book(t(A), t(X), t(Y)), {A: A, X: Y, Y: Y})
        self.assert_fold(book(t(X), t(Y), t(Z)), {X: Y, Y: Y, Z: Y})
        self.assert_fold(book(q(A, B), q(A, X), q(A, Y)), {A: A, B: B, X: Y, Y: Y})
        self.assert_fold(book(q(A, X), q(A, Y), t(X)), {A: A, X: X, Y: X})
        self.assert_fold(book(q(A, X), q(A, Y), t(Y)), {A: A, X: Y, Y: Y})
        self.assert_fold(book(q(A, MADE), q(A, B), t(B)), {A: A, MADE: B, B: B})

    def test_the_first_map_into_the_book_without_the_fact(self):
        self.assert_fold(book(t(X), t(A), t(B)), {X: A, A: A, B: B})
        self.assert_fold(book(q(X, Y), q(A, B), q(B, C)), {X: A, Y: B, A: A, B: B, C: C})
        self.assert_fold(book(q(X, Y), q(Y, X), q(A, A)), {X: A, Y: A, A: A})

    def test_a_fact_of_constants_is_never_left_out(self):
        self.assert_fold(book(q(A, A), q(A, X), t(X)), None)
        self.assert_fold(book(q(A, A), q(A, X), t(A), t(X)), {A: A, X: A})

    def test_unknowns_that_go_elsewhere_together(self):
        one = book(q(A, X), q(X, B), q(A, C), q(C, B))
        self.assert_fold(one, {A: A, B: B, C: C, X: C})
        self.assert_fold(book(q(A, X), q(X, B), q(A, C), q(C, A)), None)

    def test_against_trying_all_maps(self):
        chance = random.Random(40)
        kinds = []
        for _ in range(1500):
            one = naive.some_book(chance, naive.TARGET, [A, B, X, Y, Z, MADE], chance.randint(2, 6))
            found = naive.first_fold(one)
            self.assertEqual(fold(one), found)
            kinds.append(found is None)
        self.assertGreater(kinds.count(True), 200)
        self.assertGreater(kinds.count(False), 200)


class Core(unittest.TestCase):
    def test_books_that_fold_several_times(self):
        one = book(q(A, X), q(A, Y), t(Y), q(A, B), t(B))
        self.assertEqual(core(one), book(q(A, B), t(B)))
        wide = book(q(A, B), q(A, X), q(X, Y), q(B, C), q(Y, Z), q(C, A))
        self.assertEqual(core(wide), book(q(A, B), q(B, C), q(C, A)))
        chain = book(t(MADE), t(OTHER_MADE), u(MADE, A, X), u(OTHER_MADE, A, Y), u(OTHER_MADE, Z, Z), u(B, A, A), t(B))
        folds, left = 0, chain
        while fold(left) is not None:
            folds, left = folds + 1, image_of(left, fold(left))
        self.assertGreater(folds, 1)
        self.assertEqual(core(chain), left)

    def test_circles(self):
        self.assertEqual(len(core(circle("abcdef", True))), 2)
        self.assertEqual(core(circle("abcde", True)), circle("abcde", True))
        self.assertEqual(core(circle("abcdef")), circle("abcdef"))
        two = book(*circle("abcdef"), *circle("xyz"))
        self.assertEqual(core(two), circle("xyz"))
        self.assertEqual(len(core(book(*circle("abc"), *circle("xyz")))), 3)
        self.assertEqual(core(book(*circle("abc"), q(A, A))), (q(A, A),))

    def test_free_unknowns_and_made_ones(self):
        self.assertEqual(core(book(t(X), t(MADE))), (t(X),))
        self.assertEqual(core(book(t(A), t(MADE))), (t(A),))
        self.assertEqual(core(book(q(MADE, X), q(OTHER_MADE, X), t(OTHER_MADE))), book(q(OTHER_MADE, X), t(OTHER_MADE)))
        self.assertEqual(core(book(q(A, ("0.z", (X,))), q(A, X), t(X))), book(q(A, X), t(X)))

    def test_a_core_has_no_fold_and_stays(self):
        chance = random.Random(43)
        for _ in range(500):
            one = naive.some_book(chance, naive.TARGET, [A, B, X, Y, MADE, OTHER_MADE], chance.randint(2, 7))
            least = core(one)
            self.assertTrue(is_book(least, naive.TARGET))
            self.assertTrue(set(least) <= set(one))
            self.assertIsNone(fold(least))
            self.assertIsNone(naive.first_fold(least))
            self.assertEqual(core(least), least)
            self.assertIsNotNone(find_map(one, least))

    def test_cores_of_books_with_maps_into_each_other_are_alike(self):
        chance = random.Random(44)
        many = 0
        for _ in range(1500):
            one = naive.some_book(chance, naive.TARGET, [A, X, Y, MADE], chance.randint(1, 4))
            other = naive.some_book(chance, naive.TARGET, [A, Y, Z, OTHER_MADE], chance.randint(1, 4))
            equal = find_map(one, other) is not None and find_map(other, one) is not None
            self.assertIs(alike(core(one), core(other)), equal)
            many += equal
        self.assertGreater(many, 40)

    def test_the_core_of_an_outcome_is_a_target_as_well(self):
        chance = random.Random(45)
        shorter = 0
        for _ in range(200):
            told, source, _ = naive.some_case(chance)
            kind, outcome = chased(told, source, ())
            if kind == "target":
                least = core(outcome)
                self.assertIs(is_target(told, source, least), True)
                shorter += len(least) < len(outcome)
        self.assertGreater(shorter, 10)


class Alike(unittest.TestCase):
    def assert_alike(self, one, other, expected):
        self.assertTrue(is_book(one, RELATIONS) and is_book(other, RELATIONS))
        self.assertIs(alike(one, other), expected)
        self.assertIs(alike(other, one), expected)
        self.assertEqual(naive.are_alike(one, other), expected)
        self.assertEqual(naive.are_alike(other, one), expected)

    def test_books_without_unknowns(self):
        self.assert_alike((), (), True)
        self.assert_alike(book(q(A, B), t(A)), book(q(A, B), t(A)), True)
        self.assert_alike(book(q(A, B)), book(q(B, A)), False)
        self.assert_alike(book(t(A)), book(t(B)), False)
        self.assert_alike((), book(t(A)), False)

    def test_exchanged_unknowns(self):
        self.assert_alike((t(X),), (t(Y),), True)
        self.assert_alike((t(X),), (t(MADE),), True)
        self.assert_alike(book(q(X, Y), t(X)), book(q(Y, X), t(Y)), True)
        self.assert_alike(book(q(X, Y), t(X)), book(q(Y, X), t(X)), False)
        self.assert_alike(book(q(X, A), q(MADE, B)), book(q(MADE, A), q(X, B)), True)
        self.assert_alike(book(q(X, A), q(Y, B), t(X)), book(q(X, A), q(Y, B), t(Y)), False)
        self.assert_alike(book(q(X, Y), q(Y, Z), q(Z, X)), book(q(Y, X), q(X, MADE), q(MADE, Y)), True)

    def test_each_made_unknown_is_taken_as_a_whole(self):
        self.assert_alike(book(t(("0.z", (X,))), t(X)), book(t(("0.z", (Y,))), t(Z)), True)
        self.assert_alike(book(q(("0.z", (X,)), X)), book(q(X, ("0.z", (X,)))), True)
        self.assert_alike(book(q(A, MADE)), book(q(A, OTHER_MADE)), True)
        self.assert_alike(book(q(A, MADE), q(B, MADE)), book(q(A, MADE), q(B, OTHER_MADE)), False)

    def test_books_that_differ_by_a_fact(self):
        self.assert_alike(book(q(X, Y), t(X)), book(q(X, Y)), False)
        self.assert_alike(book(q(X, Y), t(X)), book(q(X, Y), q(Y, X)), False)
        self.assert_alike(book(t(X), t(Y)), book(t(X), t(Y), t(Z)), False)
        self.assert_alike(book(q(X, Y), q(Y, Z)), book(q(X, Y), q(Z, Y)), False)

    def test_books_that_differ_by_a_constant(self):
        self.assert_alike(book(q(A, X)), book(q(B, X)), False)
        self.assert_alike(book(q(A, X)), book(q(X, A)), False)
        self.assert_alike(book(q(A, X)), book(q(Y, X)), False)
        self.assert_alike(book(t(A)), book(t(X)), False)
        self.assert_alike(book(t(A), t(X)), book(t(Y), t(X)), False)

    def test_two_unknowns_made_one(self):
        self.assert_alike(book(q(X, Y)), book(q(X, X)), False)
        self.assert_alike(book(q(A, X), q(B, Y)), book(q(A, X), q(B, X)), False)
        self.assert_alike(book(q(A, X), q(B, Y), t(X), t(Y)), book(q(A, X), q(B, X), t(X), t(Z)), False)
        self.assert_alike(book(u(X, Y, Z)), book(u(X, Y, X)), False)
        self.assert_alike(book(u(X, Y, Y)), book(u(X, X, Y)), False)

    def test_books_with_maps_into_each_other_need_not_be_alike(self):
        self.assert_alike(book(t(X)), book(t(X), t(Y)), False)
        self.assert_alike(book(q(A, X), q(A, Y)), book(q(A, X), q(A, B)), False)

    def test_unknowns_that_look_the_same_one_by_one(self):
        names = "abcdef"
        self.assertIs(alike(circle(names), book(*circle("abc"), *circle("def"))), False)
        self.assertIs(alike(circle(names, True), book(*circle("abc", True), *circle("def", True))), False)
        self.assertIs(alike(circle(names), circle("fbdace")), True)
        self.assertIs(alike(book(*circle("abc"), *circle("xyz")), book(*circle("axc"), *circle("ybz"))), True)

    def test_against_trying_all_exchanges(self):
        chance = random.Random(46)
        kinds = []
        for _ in range(2000):
            unknowns = [X, Y, Z, MADE, OTHER_MADE]
            one = naive.some_book(chance, naive.TARGET, [A] + unknowns[:3], chance.randint(2, 6))
            image = dict(zip([A] + unknowns[:3], [A] + chance.sample(unknowns, 3)))
            other = image_of(one, image)
            if chance.randint(0, 1):
                facts = list(other)
                if facts:
                    facts[chance.randrange(len(facts))] = naive.some_book(chance, naive.TARGET, [A] + unknowns, 2)[0]
                other = tuple(sorted(set(facts)))
            expected = naive.are_alike(one, other)
            self.assertIs(alike(one, other), expected)
            self.assertIs(alike(other, one), expected)
            kinds.append(expected)
        self.assertGreater(kinds.count(True), 500)
        self.assertGreater(kinds.count(False), 200)


class Unchanged(unittest.TestCase):
    def test_nothing_that_is_passed_is_changed(self):
        told = (book(q(A, X), q(A, Y), t(Y), t(B)), book(q(A, B), q(A, X), t(X), t(B)))
        before = copy.deepcopy(told)
        found, folded = find_map(*told), fold(told[0])
        core(told[0]), alike(*told)
        self.assertEqual(told, before)
        found.clear(), folded.clear()
        self.assertEqual(find_map(*told), {A: A, B: B, X: X, Y: X})
        self.assertEqual(fold(told[0]), {A: A, B: B, X: Y, Y: Y})

    def test_symmetric_books(self):
        stars = book(*[q(X, (f"?{at}",)) for at in range(8)], *[q(Y, (f"?{at}",)) for at in range(4, 12)], t(Y))
        singles = book(*[t((f"?{at}",)) for at in range(12)])
        books = [
            complete("abc"), complete("abcd"), circle("abcdefg", True), circle("abcdefgh", True), circle("abcdefgh"),
            book(*circle("abcdef"), *[t((f"?{name}",)) for name in "abcdef"]), stars, singles,
            book(*circle("abc"), *circle("def"), *circle("ghi"))]
        for one in books:
            begin = time.process_time()
            least = core(one)
            self.assertIsNone(fold(least))
            self.assertIs(alike(one, one), True)
            for other in books:
                self.assertIs(alike(one, other), one == other)
                find_map(one, other)
            self.assertLess(time.process_time() - begin, 1)

    def test_many_facts(self):
        one = book(*[q(A, (f"?{at}",)) for at in range(60)], *[q((f"n{at}",), (f"?{at}",)) for at in range(60)])
        begin = time.process_time()
        self.assertIsNone(fold(one[:1]))
        self.assertIsNotNone(find_map(one, one))
        self.assertIs(alike(one, one), True)
        self.assertLess(time.process_time() - begin, 5)


if __name__ == "__main__":
    unittest.main()
