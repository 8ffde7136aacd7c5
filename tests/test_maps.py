"""Points [1], [37] to [39]: maps of books, and the map of an outcome into every target."""

import copy
import pathlib
import random
import sys
import time
import unittest

sys.path.insert(0, str(pathlib.Path(__file__).resolve().parent))

import naive
from everytarget.chase import chased
from everytarget.maps import image_of, into, judge_map, values_of
from everytarget.questions import answers, certain
from everytarget.targets import is_target
from everytarget.values import is_book, is_program

A = ("a",)
B = ("b",)
C = ("c",)
D = ("d",)
X = ("?x",)
Y = ("?y",)
# p(x) -> q(x, z)
SIMPLE = ("make", (("p", ("x",)),), (("q", ("x", "z")),))


class AlwaysEqual:
    """Equal to everything, and without a hash."""

    def __eq__(self, other):
        return True


class EqualAndHashed:
    """Equal to everything, with the hash of a constant."""

    def __eq__(self, other):
        return True

    def __hash__(self):
        return hash(A)


def z(*values):
    return ("0.z", values)


def program(*rules):
    return {"source": {"p": 1, "r": 1, "e": 2}, "target": {"q": 2, "t": 1, "u": 3}, "rules": rules}


def p(value):
    return ("p", (value,))


def e(one, other):
    return ("e", (one, other))


def q(one, other):
    return ("q", (one, other))


def t(value):
    return ("t", (value,))


def u(*values):
    return ("u", values)


def book(*facts):
    return tuple(sorted(facts))


class Values(unittest.TestCase):
    def test_each_once_ascending(self):
        facts = book(q(B, A), q(A, X), q(B, z(A)), t(("10",)), t(("1",)), u(A, z(A), X))
        self.assertEqual(values_of(facts), [z(A), ("1",), ("10",), X, A, B])
        self.assertEqual(values_of(facts), sorted(values_of(facts)))

    def test_arguments_within_a_made_unknown_do_not_count(self):
        self.assertEqual(values_of((t(z(A, B)),)), [z(A, B)])
        self.assertEqual(values_of((t(z(z(C), X)),)), [z(z(C), X)])
        self.assertEqual(values_of(book(t(z(A, B)), t(B))), [z(A, B), B])
        self.assertEqual(values_of(book(t(z(z(A))), t(z(A)))), [z(z(A)), z(A)])

    def test_the_empty_book(self):
        self.assertEqual(values_of(()), [])

    def test_deep_values(self):
        deep = A
        for _ in range(3000):
            deep = ("0.z", (deep,))
        self.assertEqual(len(values_of((q(A, deep), q(deep, A)))), 2)

    def test_what_is_returned_is_the_callers_own(self):
        facts = book(q(A, B), t(X))
        found = values_of(facts)
        found.clear()
        self.assertEqual(values_of(facts), [X, A, B])


NO_MAPS = [
    None, 0, 1, -1, 2.5, True, False, "", "a", b"a", (), [], ((A, A),), [(A, A)], [A], set(), {A}, object(), AlwaysEqual(),
    EqualAndHashed(), len, dict, int, NotImplemented, range(2), {None: None}, {0: A}, {"a": A}, {"a": "a"}, {(): ()},
    {A: None}, {None: A}, {(A,): A}, {q(A, X): q(A, B)}, {EqualAndHashed(): A},
]


class JudgeMap(unittest.TestCase):
    BOOK = book(q(A, X), q(X, z(A)), t(z(A)))
    OTHER = book(q(A, B), q(B, C), q(B, Y), t(C), t(Y))

    def assert_map(self, one, other, image):
        self.assertIs(judge_map(one, other, image), True)

    def assert_no_map(self, one, other, image):
        self.assertIs(judge_map(one, other, image), False)

    def test_right_maps(self):
        self.assert_map(self.BOOK, self.OTHER, {A: A, X: B, z(A): C})
        self.assert_map(self.BOOK, self.OTHER, {z(A): Y, X: B, A: A})
        self.assert_map(self.BOOK, self.BOOK, {A: A, X: X, z(A): z(A)})
        self.assert_map(self.BOOK, book(q(A, A), t(A)), {A: A, X: A, z(A): A})
        self.assert_map((), (), {})
        self.assert_map((), self.OTHER, {})
        self.assert_map(book(q(A, B)), self.OTHER, {A: A, B: B})

    def test_a_constant_sent_elsewhere(self):
        self.assert_no_map((t(A),), (t(B),), {A: B})
        self.assert_no_map((t(A),), book(t(A), t(B)), {A: B})
        self.assert_no_map((t(A),), book(t(A), t(X)), {A: X})
        self.assert_no_map(self.BOOK, book(q(B, B), t(B)), {A: B, X: B, z(A): B})
        self.assert_map((t(X),), (t(Y),), {X: Y})

    def test_a_value_left_out(self):
        good = {A: A, X: B, z(A): C}
        for value in good:
            self.assert_no_map(self.BOOK, self.OTHER, {key: good[key] for key in good if key != value})
        self.assert_no_map(self.BOOK, self.OTHER, {})

    def test_one_value_too_many(self):
        good = {A: A, X: B, z(A): C}
        for value in (B, C, Y, z(B), z(), ("a", ()), "a", None, 0, (), EqualAndHashed()):
            self.assert_no_map(self.BOOK, self.OTHER, {**good, value: B})
        self.assert_no_map((), (), {A: A})
        self.assert_no_map(book(t(z(A))), book(t(B)), {z(A): B, A: A})

    def test_another_value_instead(self):
        self.assert_no_map((t(A),), (t(A),), {B: B})
        self.assert_no_map((t(A),), (t(A),), {B: A})
        self.assert_no_map((t(A),), (t(A),), {EqualAndHashed(): A})

    def test_a_fact_whose_image_is_none_of_the_other_book(self):
        self.assert_no_map(self.BOOK, self.OTHER, {A: A, X: B, z(A): B})
        self.assert_no_map(self.BOOK, self.OTHER, {A: A, X: C, z(A): C})
        self.assert_no_map(self.BOOK, self.OTHER, {A: A, X: X, z(A): z(A)})
        self.assert_no_map((t(A),), (), {A: A})
        self.assert_no_map((t(A),), (q(A, A),), {A: A})
        self.assert_no_map((q(X, Y),), (q(A, B),), {X: B, Y: A})
        self.assert_no_map((q(X, Y),), (("s", (A, B)),), {X: A, Y: B})

    def test_images_that_are_no_values(self):
        for image in (None, 0, True, "a", (), ("A",), ["a"], [A], {}, ("?",), ("0.z", A), ("0.z",), AlwaysEqual(),
                      EqualAndHashed(), (AlwaysEqual(),), object(), ("a", ())):
            self.assert_no_map((t(X),), book(t(A), t(B)), {X: image})
            self.assert_no_map((t(A),), book(t(A), t(B)), {A: image})
            self.assert_no_map(self.BOOK, self.OTHER, {A: A, X: image, z(A): C})

    def test_any_other_value(self):
        for value in NO_MAPS:
            self.assert_no_map((t(A),), (t(A),), value)
            self.assert_no_map((t(X),), book(t(A), t(X)), value)
            self.assert_no_map((), (), value)
            self.assert_no_map(self.BOOK, self.OTHER, value)
        self.assert_no_map((t(A),), (t(A),), {(("a",),): ("a",)})

    def test_against_trying_all_images(self):
        chance = random.Random(37)
        kinds = []
        for _ in range(1500):
            values = [A, B, X, Y, z(A)]
            one = naive.some_book(chance, naive.TARGET, [A, X, Y, z(A)], chance.randint(1, 3))
            other = naive.some_book(chance, naive.TARGET, values[:3], 9)
            image = {value: value if chance.randint(0, 3) else chance.choice(values) for value in naive.values_of(one)}
            self.assertIs(judge_map(one, other, image), naive.is_map(one, other, image))
            kinds.append(naive.is_map(one, other, image))
        self.assertGreater(kinds.count(True), 50)
        self.assertGreater(kinds.count(False), 50)


class ImageOf(unittest.TestCase):
    def test_facts_that_become_one(self):
        self.assertEqual(image_of(book(q(A, X), q(A, Y), q(A, B)), {A: A, B: B, X: B, Y: B}), (q(A, B),))
        self.assertEqual(image_of(book(t(X), t(Y), q(X, Y)), {X: Y, Y: Y}), (q(Y, Y), t(Y)))

    def test_the_order_of_the_image(self):
        self.assertEqual(image_of(book(t(A), t(X), t(Y)), {A: A, X: C, Y: B}), (t(A), t(B), t(C)))
        self.assertEqual(image_of(book(q(X, B), q(Y, A)), {A: A, B: B, X: C, Y: z(B)}), (q(z(B), A), q(C, B)))

    def test_made_unknowns_are_taken_as_a_whole(self):
        self.assertEqual(image_of(book(t(z(X)), t(X)), {X: A, z(X): z(X)}), (t(z(X)), t(A)))

    def test_further_values_of_the_dict(self):
        self.assertEqual(image_of((t(X),), {X: A, Y: B, C: C}), (t(A),))
        self.assertEqual(image_of((), {}), ())

    def test_it_is_a_book(self):
        chance = random.Random(38)
        for _ in range(200):
            one = naive.some_book(chance, naive.TARGET, [A, B, X, Y, z(A)], 8)
            image = {value: chance.choice([A, B, C, X]) for value in naive.values_of(one)}
            found = image_of(one, image)
            self.assertTrue(is_book(found, naive.TARGET))
            self.assertEqual(
                set(found), {(name, tuple([image[value] for value in values])) for name, values in one})


class Into(unittest.TestCase):
    def assert_into(self, rules, one, other, image):
        told = program(*rules)
        self.assertTrue(is_program(told) and is_book(one, told["target"]) and is_book(other, told["target"]))
        self.assertEqual(into(told, one, other), image)
        if image is not None:
            self.assertIs(judge_map(one, other, image), True)
            self.assertEqual(sorted(into(told, one, other)), values_of(one))

    def test_the_example_of_the_document(self):
        told = {"source": {"a": 1}, "target": {"b": 2}, "rules": (("make", (("a", ("x",)),), (("b", ("x", "z")),)),)}
        one, other = (("b", (("c",), ("0.z", (("c",),)))),), (("b", (("c",), ("d",))),)
        self.assertEqual(into(told, one, other), {("0.z", (("c",),)): ("d",), ("c",): ("c",)})

    def test_constants(self):
        rule = ("make", (("e", ("x", "y")),), (("q", ("x", "y")),))
        self.assert_into([rule], book(q(A, B)), book(q(A, B), q(B, A)), {A: A, B: B})
        self.assert_into([rule], (), (), {})
        self.assert_into([rule], (), book(q(A, B)), {})

    def test_made_unknowns(self):
        self.assert_into([SIMPLE], book(q(A, z(A)), q(B, z(B))), book(q(A, C), q(B, X)), {A: A, B: B, z(A): C, z(B): X})
        self.assert_into([SIMPLE], book(q(A, z(A))), book(q(A, z(A))), {A: A, z(A): z(A)})
        self.assert_into([SIMPLE], book(q(A, z(A))), book(q(A, z(z(A)))), {A: A, z(A): z(z(A))})

    def test_the_least_extension_where_there_are_several(self):
        for values in ((B, C, D), (X, B), (z(A), X, B), (C, ("c0",)), (("1.z", ()), z(A))):
            facts = [q(A, value) for value in values]
            self.assert_into([SIMPLE], book(q(A, z(A))), book(*facts), {A: A, z(A): min(values)})
        self.assertLess(z(A), X)

    def test_the_least_extension_is_that_of_all_facts_of_the_head_in_their_order(self):
        # p(x) -> q(x, z), u(x, w, z)
        rule = ("make", (("p", ("x",)),), (("q", ("x", "z")), ("u", ("x", "w", "z"))))
        one = book(q(A, z(A)), u(A, ("0.w", (A,)), z(A)))
        other = book(q(A, B), q(A, C), q(A, D), u(A, A, D), u(A, D, C))
        self.assert_into([rule], one, other, {A: A, z(A): C, ("0.w", (A,)): D})
        # p(x) -> u(x, w, z), q(x, z)
        turned = ("make", rule[1], rule[2][::-1])
        self.assert_into([turned], one, other, {A: A, z(A): D, ("0.w", (A,)): A})

    def test_several_made_variables_from_the_same_extension(self):
        # p(x) -> u(x, z, w)
        rule = ("make", (("p", ("x",)),), (("u", ("x", "z", "w")),))
        one = book(u(A, z(A), ("0.w", (A,))))
        self.assert_into([rule], one, book(u(A, B, D), u(A, C, A)), {A: A, z(A): B, ("0.w", (A,)): D})
        # p(x) -> q(x, z), q(x, w), u(x, z, w)
        wider = ("make", (("p", ("x",)),), (("q", ("x", "z")), ("q", ("x", "w")), ("u", ("x", "z", "w"))))
        one = book(q(A, z(A)), q(A, ("0.w", (A,))), u(A, z(A), ("0.w", (A,))))
        other = book(q(A, B), q(A, C), q(A, D), u(A, C, B), u(A, C, D), u(A, D, B))
        self.assert_into([wider], one, other, {A: A, z(A): C, ("0.w", (A,)): B})

    def test_unknowns_of_several_depths(self):
        # p(x) -> q(x, z) and q(x, y) -> u(x, y, w)
        rules = [SIMPLE, ("make", (("q", ("x", "y")),), (("u", ("x", "y", "w")),))]
        _, one = chased(program(*rules), (p(A),), ())
        w = ("1.w", (A, z(A)))
        self.assertEqual(one, book(q(A, z(A)), u(A, z(A), w)))
        self.assert_into(rules, one, book(q(A, B), u(A, B, C), u(A, B, D)), {A: A, z(A): B, w: C})
        self.assert_into(rules, one, book(q(A, B), q(A, X), u(A, B, D), u(A, X, C)), {A: A, z(A): X, w: C})
        self.assert_into(rules, one, book(q(A, A), u(A, A, A)), {A: A, z(A): A, w: A})
        # u(x, y, v) -> t(k), q(v, k)
        rules.append(("make", (("u", ("x", "y", "v")),), (("t", ("k",)), ("q", ("v", "k")))))
        one = book(q(A, z(A)), u(A, z(A), w), t(("2.k", (w,))), q(w, ("2.k", (w,))))
        other = book(q(A, B), u(A, B, C), q(C, D), q(C, X), t(D), t(A))
        self.assert_into(rules, one, other, {A: A, z(A): B, w: C, ("2.k", (w,)): D})

    def test_rules_without_frontier(self):
        rule = ("make", (("p", ("x",)),), (("q", ("z", "w")), ("t", ("w",))))
        one = book(q(z(), ("0.w", ())), t(("0.w", ())))
        self.assert_into([rule], one, book(q(A, B), q(B, C), q(C, C), t(C)), {z(): B, ("0.w", ()): C})

    def test_constants_in_the_head(self):
        rule = ("make", (("p", ("x",)),), (("u", (C, "x", "z")),))
        self.assert_into([rule], (u(C, A, z(A)),), book(u(A, A, B), u(C, A, D)), {A: A, C: C, z(A): D})

    def test_the_number_of_a_rule_may_have_several_digits(self):
        rules = [("make", (("r", ("x",)),), (("t", ("x",)),))] * 11 + [SIMPLE]
        self.assert_into(rules, (q(A, ("11.z", (A,))),), (q(A, B),), {A: A, ("11.z", (A,)): B})

    def test_an_extension_is_missing(self):
        self.assert_into([SIMPLE], book(q(A, z(A))), (), None)
        self.assert_into([SIMPLE], book(q(A, z(A))), book(q(B, A)), None)
        self.assert_into([SIMPLE], book(q(A, z(A)), q(B, z(B))), book(q(A, B)), None)
        rule = ("make", (("p", ("x",)),), (("q", ("x", "z")), ("t", ("z",))))
        self.assert_into([rule], book(q(A, z(A)), t(z(A))), book(q(A, B), t(C)), None)
        self.assert_into([rule], book(q(A, z(A)), t(z(A))), book(q(A, B), q(A, C), t(C)), {A: A, z(A): C})

    def test_the_result_is_no_map(self):
        rule = ("make", (("e", ("x", "y")),), (("q", ("x", "y")),))
        self.assert_into([rule], book(q(A, B)), book(q(B, A)), None)
        self.assert_into([SIMPLE], book(q(A, z(A)), t(A)), book(q(A, B)), None)
        # q(x, y) -> t(y): the book has t(z), the other one is no target
        rules = [SIMPLE, ("make", (("q", ("x", "y")),), (("t", ("y",)),))]
        self.assert_into(rules, book(q(A, z(A)), t(z(A))), book(q(A, B), q(A, C), t(C)), None)
        self.assert_into(rules, book(q(A, z(A)), t(z(A))), book(q(A, B), q(A, C), t(B)), {A: A, z(A): B})

    def test_values_that_stand_only_within_a_made_unknown(self):
        rules = [SIMPLE, ("make", (("q", ("x", "y")),), (("t", ("w",)), ("q", ("y", "w"))))]
        inner = ("1.w", (z(A),))
        one = (t(inner),)
        self.assert_into(rules, one, book(q(A, B), q(B, C), t(C), t(D)), {inner: C})
        self.assert_into(rules, one, book(q(B, C), t(C)), None)
        self.assert_into(rules, one, book(q(A, B), q(A, C), q(C, C), t(C)), None)
        self.assert_into(rules, (t(z(A)),), book(q(A, B), t(B)), {z(A): B})
        self.assert_into([rules[0], SIMPLE], (t(("1.z", (z(A),))),), book(t(A), q(A, A)), {("1.z", (z(A),)): A})

    def test_names_after_a_same_rule(self):
        # p(x) -> q(x, z), p(x) -> u(x, x, w), q(x, y) and u(x, v, w) -> y = w, t(y) for q(x, y)
        rules = (
            SIMPLE, ("make", (("p", ("x",)),), (("u", ("x", "x", "w")),)),
            ("same", (("q", ("x", "y")), ("u", ("x", "v", "w"))), "y", "w"))
        kind, one = chased(program(*rules), (p(A),), ())
        self.assertEqual((kind, one), ("target", book(q(A, z(A)), u(A, A, z(A)))))
        self.assert_into(rules, one, book(q(A, C), u(A, A, C), u(B, B, D)), {A: A, z(A): C})

    def test_nothing_that_is_passed_is_changed(self):
        told = (program(SIMPLE), book(q(A, z(A))), book(q(A, B), q(A, X)))
        before = copy.deepcopy(told)
        image = into(*told)
        image_of(told[1], image)
        judge_map(told[1], told[2], image)
        self.assertEqual((told, image), (before, {A: A, z(A): X}))
        image.clear()
        self.assertEqual(into(*told), {A: A, z(A): X})

    def test_a_long_chain_of_rules(self):
        names = [f"n{at}" for at in range(120)]
        rules = tuple([("make", ((one, ("x", "y")),), ((other, ("y", "z")),)) for one, other in zip(names, names[1:])])
        told = {"source": {names[0]: 2}, "target": {name: 2 for name in names[1:]}, "rules": rules}
        begin = time.process_time()
        kind, one = chased(told, ((names[0], (A, B)),), ())
        other = book(*[(name, (B, B)) for name in names[1:]])
        image = into(told, one, other)
        self.assertEqual(set(image.values()), {B})
        self.assertLess(time.process_time() - begin, 10)


def some_target(chance, told, source, outcome):
    """Another target of the source, or None: values of the outcome replaced, and further facts, as chance has it."""
    kind = chance.randint(0, 2)
    if kind == 0:
        known = naive.some_book(chance, naive.TARGET, naive.CONSTANTS + naive.FREE, 3)
        ended, other = chased(told, source, known)
        return other if ended == "target" else None
    unknowns = [value for value in naive.values_of(outcome) if not naive.is_constant(value)]
    choices = naive.CONSTANTS + naive.FREE + unknowns if kind == 1 else naive.CONSTANTS[:1]
    image = {value: chance.choice(choices) for value in unknowns if chance.randint(0, 2)}
    facts = {(name, tuple([image.get(value, value) for value in values])) for name, values in outcome}
    ended, other = chased(told, source, ())
    other = tuple(sorted(facts | (set(other) if chance.randint(0, 1) else set())))
    return other if is_target(told, source, other) else None


class EveryTarget(unittest.TestCase):
    def test_the_outcome_has_a_map_into_every_target(self):
        chance = random.Random(39)
        many, further = 0, 0
        for _ in range(400):
            told, source, _ = naive.some_case(chance)
            kind, outcome = chased(told, source, ())
            if kind == "clash":
                continue
            self.assertEqual(naive.into(told, outcome, outcome), into(told, outcome, outcome))
            for _ in range(4):
                other = some_target(chance, told, source, outcome)
                if other is not None:
                    many += 1
                    image = into(told, outcome, other)
                    self.assertIsNotNone(image)
                    self.assertIs(judge_map(outcome, other, image), True)
                    self.assertEqual(image, naive.into(told, outcome, other))
                    further += any(image[value] != value for value in image)
        self.assertGreater(many, 300)
        self.assertGreater(further, 50)

    def test_all_targets_of_a_small_program(self):
        rules = (("make", (("p", ("x",)),), (("q", ("x", "z")), ("q", ("z", "w")))), (
            "same", (("q", ("x", "y")), ("q", ("y", "v"))), "y", "v"))
        told = {"source": {"p": 1}, "target": {"q": 2}, "rules": rules}
        source = book(p(A), p(B))
        _, outcome = chased(told, source, ())
        question = ((("x", "v"), (("q", ("x", "y")), ("q", ("y", "v")))), (("x", "x"), (("q", ("x", "y")),)))
        many = 0
        for other in naive.all_books({"q": 2}, [A, B, X]):
            image = into(told, outcome, other)
            self.assertEqual(image, naive.into(told, outcome, other))
            if is_target(told, source, other):
                many += 1
                self.assertIs(judge_map(outcome, other, image), True)
                for answer in certain(question, outcome):
                    self.assertIn(answer, answers(question, other))
        self.assertGreater(many, 5)


if __name__ == "__main__":
    unittest.main()
