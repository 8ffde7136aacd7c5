"""Points [1], [3], [4], [5]: values, their depth and order, facts and books."""

import copy
import itertools
import unittest

from everytarget.values import (
    depth, is_book, is_constant, is_value, made, text_of, value_key)

A = ("a",)
B = ("b",)
X = ("?x",)
MADE = ("0.z", (A,))
SIGNS = "abcdefghijklmnopqrstuvwxyz0123456789"

NO_VALUES_OF_ANY_KIND = [
    None, 0, 1, -7, 1.5, True, False, "", "a", "?x", "0.z", b"a", [], ["a"], [A], {}, {"a": 1},
    {"a"}, frozenset("a"), (), object(), len, int, NotImplemented, range(2),
]


class AlwaysEqual:
    """Equal to everything, and without a hash."""

    def __eq__(self, other):
        return True


def nested(many, inner):
    value = inner
    for _ in range(many):
        value = ("0.z", (value,))
    return value


class Constants(unittest.TestCase):
    def test_names_of_one_to_eight_signs(self):
        for many in range(1, 9):
            self.assertIs(is_constant(("a" * many,)), True)
            self.assertIs(is_value(("7" * many,)), True)

    def test_names_too_short_or_too_long(self):
        for many in (0, 9, 10, 100):
            self.assertIs(is_constant(("a" * many,)), False)
            self.assertIs(is_value(("a" * many,)), False)

    def test_each_sign_at_each_end(self):
        for sign in SIGNS:
            for name in (sign, sign + "b", "b" + sign):
                self.assertIs(is_constant((name,)), True)
                self.assertIs(is_value((name,)), True)

    def test_other_signs(self):
        others = [chr(code) for code in range(0, 400) if chr(code) not in SIGNS]
        others += ["\u0661", "\u06f1", "\u00b2", "\u2460", "\uff11", "\uff41", "\u0131", "\ud800"]
        for sign in others:
            for name in (sign, "a" + sign, sign + "a", "a" + sign + "b"):
                self.assertIs(is_constant((name,)), False, name)
                if sign != "?" or name[0] != "?" or len(name) == 1:
                    self.assertIs(is_value((name,)), False, name)

    def test_lists_in_the_place_of_tuples(self):
        self.assertIs(is_constant(["a"]), False)
        self.assertIs(is_constant((["a"],)), False)

    def test_tuples_of_other_lengths(self):
        for value in ((), ("a", "b"), ("a", ()), ("a", "b", "c"), ("a", ("b",))):
            self.assertIs(is_constant(value), False)

    def test_unknowns_are_no_constants(self):
        for value in (X, MADE, ("0.z", ())):
            self.assertIs(is_constant(value), False)

    def test_any_other_kind_of_value(self):
        for value in NO_VALUES_OF_ANY_KIND + [AlwaysEqual()]:
            self.assertIs(is_constant(value), False)
            self.assertIs(is_constant((value,)), value == "a" and isinstance(value, str))


class Values(unittest.TestCase):
    def test_free_unknowns(self):
        for name in ("x", "0", "abcdefgh", "12345678", "z9"):
            self.assertIs(is_value(("?" + name,)), True)

    def test_wrong_free_unknowns(self):
        for name in ("?", "??", "??x", "x?", "?x?", "?abcdefghi", "? x", "?X", "?.", "?\u0661"):
            self.assertIs(is_value((name,)), False, name)
        for value in ("?x", ["?x"], ("?", "x"), ("?x", ()), ("?x", (A,))):
            self.assertIs(is_value(value), False)

    def test_made_unknowns(self):
        labels = ("0.z", "1.z", "9.z", "10.z", "100.abcdefgh", "7.a1234567", "1234567890123.x")
        for label in labels:
            for values in ((), (A,), (A, X), (MADE,), (A, MADE, X, MADE, B)):
                self.assertIs(is_value((label, values)), True, label)

    def test_wrong_labels(self):
        labels = (
            "", ".", "z", "0", "0z", "z.0", ".z", "0.", "00.z", "01.z", "007.z", "-1.z", "+1.z",
            " 1.z", "1 .z", "1. z", "1.z ", "1_0.z", "1.0", "1.9a", "1.Z", "1.z_", "1.?z", "?1.z",
            "1.abcdefghi", "1..z", "1.z.z", "1.z.", "a.z", "1a.z", "1.\u00e9", "\u0661.z",
            "\u00b2.z", "1,z", "1.z\n")
        for label in labels:
            self.assertIs(is_value((label, ())), False, label)
            self.assertIs(is_value((label, (A,))), False, label)

    def test_signs_in_the_number_of_a_label(self):
        for sign in [chr(code) for code in range(0, 400)] + ["\u0661", "\uff11"]:
            for number in (sign, "1" + sign, sign + "1", "1" + sign + "1"):
                right = all(part in "0123456789" for part in number) and (number == "0" or number[0] != "0")
                self.assertIs(is_value((number + ".z", ())), right, number)

    def test_labels_of_other_kinds(self):
        for label in (None, 0, True, b"0.z", ("0", "z"), ("0.z",), ["0.z"], AlwaysEqual()):
            self.assertIs(is_value((label, (A,))), False)

    def test_lists_in_the_place_of_tuples(self):
        for value in (["0.z", (A,)], ("0.z", [A]), ("0.z", (["a"],)), ("0.z", (MADE, ["0.z", (A,)]))):
            self.assertIs(is_value(value), False)

    def test_tuples_of_other_lengths(self):
        for value in ((), ("0.z",), ("0.z", (A,), ()), ("0.z", A, B), ("0.z", (A, ())), ("a", (A,))):
            self.assertIs(is_value(value), False)

    def test_values_of_a_made_unknown_are_values(self):
        for inner in NO_VALUES_OF_ANY_KIND + [("A",), ("0.z", A), ("00.z", ()), ("0.z",)]:
            self.assertIs(is_value(("0.z", (inner,))), False)
            self.assertIs(is_value(("0.z", (A, inner))), False)
            self.assertIs(is_value(("0.z", (inner, A))), False)
            self.assertIs(is_value(("1.y", (A, ("0.z", (inner, A))))), False)

    def test_values_that_are_no_tuple(self):
        for inner in (None, "a", A[0], 3, [A], {A: 1}):
            self.assertIs(is_value(("0.z", inner)), False)

    def test_any_other_kind_of_value(self):
        for value in NO_VALUES_OF_ANY_KIND + [AlwaysEqual()]:
            self.assertIs(is_value(value), False)
            self.assertIs(is_value((value,)), value in ("a", "?x") and isinstance(value, str))
            self.assertIs(is_value((value, (A,))), value == "0.z" and isinstance(value, str))

    def test_values_deeper_than_calls_may_nest(self):
        self.assertIs(is_value(nested(20000, A)), True)
        self.assertIs(is_value(nested(20000, ("A",))), False)

    def test_values_of_the_program_are_values(self):
        self.assertIs(is_value(made(12, "x1", [A, X, MADE])), True)


class Depth(unittest.TestCase):
    def test_constants_and_free_unknowns(self):
        for value in (A, ("12345678",), X, ("?0",)):
            self.assertEqual(depth(value), 0)

    def test_label_without_values(self):
        self.assertEqual(depth(("0.z", ())), 1)
        self.assertEqual(depth(("1.y", (("0.z", ()),))), 2)

    def test_one_more_than_the_greatest_depth(self):
        self.assertEqual(depth(("0.z", (A,))), 1)
        self.assertEqual(depth(("0.z", (X, A))), 1)
        self.assertEqual(depth(("1.y", (A, MADE))), 2)
        self.assertEqual(depth(("1.y", (MADE, A))), 2)
        self.assertEqual(depth(("1.y", (nested(3, A), nested(1, A), nested(2, A)))), 4)

    def test_every_number_of_levels(self):
        for many in list(range(40)) + [20000]:
            self.assertEqual(depth(nested(many, A)), many)
            self.assertEqual(depth(nested(many, ("4.w", ()))), many + 1)

    def test_depth_is_an_integer(self):
        self.assertIs(type(depth(A)), int)
        self.assertIs(type(depth(MADE)), int)


class Keys(unittest.TestCase):
    def test_parts_of_the_key(self):
        self.assertEqual(value_key(A), (0, 0, A))
        self.assertEqual(value_key(X), (0, 1, X))
        self.assertEqual(value_key(("0.z", ())), (1, 1, ("0.z", ())))
        self.assertEqual(value_key(nested(5, X)), (5, 1, nested(5, X)))

    def test_parts_are_integers(self):
        for value in (A, X, MADE):
            self.assertEqual([type(part) for part in value_key(value)], [int, int, tuple])

    def test_constants_come_before_free_unknowns(self):
        ordered = sorted([X, ("zz",), ("?0",), ("0",), A], key=value_key)
        self.assertEqual(ordered, [("0",), A, ("zz",), ("?0",), X])

    def test_depth_counts_first(self):
        values = [nested(2, A), ("9.z", ()), ("?z",), ("z",), ("0.z", (B,)), ("0.z", (("0.a", ()),))]
        expected = [("z",), ("?z",), ("0.z", (B,)), ("9.z", ()), ("0.z", (("0.a", ()),)), nested(2, A)]
        self.assertEqual(sorted(values, key=value_key), expected)

    def test_ties_of_depth_between_made_unknowns(self):
        values = [("1.a", ()), ("0.z", (B,)), ("0.z", (A, A)), ("0.z", (A,)), ("0.z", ()), ("10.a", ()), ("0.z", (X,))]
        expected = [("0.z", ()), ("0.z", (X,)), ("0.z", (A,)), ("0.z", (A, A)), ("0.z", (B,)), ("1.a", ()), ("10.a", ())]
        self.assertEqual(sorted(values, key=value_key), expected)


def some_values():
    """Values of depths 0 to 3 with names of which one begins the other."""
    level = [("a",), ("ab",), ("1",), ("10",), ("?a",), ("?ab",)]
    every = list(level)
    for labels in (("0.a", "0.ab"), ("1.a", "10.a"), ("0.a",)):
        inner = every[:3] + every[-2:]
        tuples = [()] + [(one,) for one in inner] + list(itertools.product(inner, repeat=2))
        level = [(label, values) for label in labels for values in tuples]
        every = every + level
    return every


class Texts(unittest.TestCase):
    def test_texts_are_ordered_as_the_tuples(self):
        values = some_values()
        self.assertEqual(sorted(values, key=text_of), sorted(values))
        facts = [(name, (one, other)) for name in ("p", "pa") for one in values[::5] for other in values[::7]]
        self.assertEqual(sorted(facts, key=text_of), sorted(facts))

    def test_each_value_has_a_text_of_its_own(self):
        values = list(dict.fromkeys(some_values()))
        self.assertEqual(len({text_of(value) for value in values}), len(values))


class Made(unittest.TestCase):
    def test_the_example_of_the_document(self):
        value = made(2, "z", (("a",), ("?x",)))
        self.assertEqual(value, ("2.z", (("a",), ("?x",))))
        self.assertEqual(depth(value), 1)

    def test_a_list_gives_a_tuple(self):
        values = [A, MADE]
        value = made(10, "y1", values)
        self.assertEqual(value, ("10.y1", (A, MADE)))
        self.assertIs(type(value[1]), tuple)
        self.assertEqual(values, [A, MADE])

    def test_no_values(self):
        self.assertEqual(made(0, "z", ()), ("0.z", ()))
        self.assertEqual(made(0, "z", []), ("0.z", ()))


RELATIONS = {"p": 1, "q": 2}
P_A = ("p", (A,))
P_B = ("p", (B,))
Q_AB = ("q", (A, B))


class Books(unittest.TestCase):
    def test_books(self):
        books = (
            (), (P_A,), (P_A, P_B), (P_A, P_B, Q_AB), (("q", (MADE, X)),),
            (("q", (X, MADE)), ("q", (A, B)), ("q", (B, A))),
            (("q", (("0.z", ()), A)), ("q", (("0.z", (A,)), A)), ("q", (("0.z", (A, A)), A))))
        for book in books:
            self.assertIs(is_book(book, RELATIONS), True, book)

    def test_no_relations(self):
        self.assertIs(is_book((), {}), True)
        self.assertIs(is_book((P_A,), {}), False)

    def test_order(self):
        for facts in ((P_B, P_A), (Q_AB, P_A), (P_A, Q_AB, P_B), (P_B, P_A, Q_AB)):
            self.assertIs(is_book(facts, RELATIONS), False)
        # As tuples "?" stands before the letters and behind the digits.
        self.assertIs(is_book((("p", (("1",),)), ("p", (X,)), P_A), RELATIONS), True)
        self.assertIs(is_book((P_A, ("p", (X,))), RELATIONS), False)
        # A deeper value may come first, for the order is that of tuples.
        self.assertIs(is_book((("p", (MADE,)), P_A), RELATIONS), True)
        self.assertIs(is_book((P_A, ("p", (MADE,))), RELATIONS), False)

    def test_doubles(self):
        for facts in ((P_A, P_A), (P_A, P_B, P_B), (P_A, P_A, Q_AB), (Q_AB, Q_AB)):
            self.assertIs(is_book(facts, RELATIONS), False)

    def test_unknown_relations(self):
        for name in ("r", "", "pp", "P", None, 1, True, ("p",), ["p"], {}, AlwaysEqual()):
            self.assertIs(is_book(((name, (A,)),), RELATIONS), False)

    def test_wrong_numbers_of_values(self):
        for fact in (("p", ()), ("p", (A, A)), ("q", (A,)), ("q", (A, A, A)), ("q", ())):
            self.assertIs(is_book((fact,), RELATIONS), False)

    def test_lists_in_the_place_of_tuples(self):
        for facts in ([], [P_A], (["p", (A,)],), (("p", [A]),), (("p", (["a"],)),), (("q", (A, ["b"])),)):
            self.assertIs(is_book(facts, RELATIONS), False)

    def test_facts_of_other_lengths(self):
        for fact in ((), ("p",), ("p", (A,), ()), ("p", A), "p", A):
            self.assertIs(is_book((fact,), RELATIONS), False)

    def test_values_that_are_none(self):
        for value in NO_VALUES_OF_ANY_KIND + [("A",), ("?",), ("00.z", ()), ("0.z", [A]), ("0.z", (1,))]:
            self.assertIs(is_book((("p", (value,)),), RELATIONS), False)
            self.assertIs(is_book((("q", (A, value)),), RELATIONS), False)
            self.assertIs(is_book((("q", (value, A)),), RELATIONS), False)

    def test_each_fact_is_looked_at(self):
        self.assertIs(is_book((P_A, ("p", ("b",)), Q_AB), RELATIONS), False)
        self.assertIs(is_book((P_A, P_B, ("r", (A,))), RELATIONS), False)

    def test_any_other_kind_of_value(self):
        for value in NO_VALUES_OF_ANY_KIND + [AlwaysEqual()]:
            self.assertIs(is_book(value, RELATIONS), value == () and isinstance(value, tuple))
            self.assertIs(is_book((value,), RELATIONS), False)

    def test_values_deeper_than_calls_may_nest(self):
        one = ("p", (nested(5000, A),))
        other = ("p", (nested(5000, B),))
        self.assertIs(is_book((one, other), RELATIONS), True)
        self.assertIs(is_book((other, one), RELATIONS), False)
        self.assertIs(is_book((one, ("p", (nested(5000, A),))), RELATIONS), False)

    def test_nothing_is_changed(self):
        facts = [P_A, ["p", [A]]]
        relations = {"p": 1, "q": 2}
        before = copy.deepcopy((facts, relations))
        is_book(facts, relations)
        is_book(tuple(facts), relations)
        self.assertEqual((facts, relations), before)


if __name__ == "__main__":
    unittest.main()
