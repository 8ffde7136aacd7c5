"""Points [1], [12] to [14]: classes, kept closed, their clash and their names."""

import copy
import itertools
import pathlib
import random
import sys
import time
import unittest

sys.path.insert(0, str(pathlib.Path(__file__).resolve().parent))

from everytarget.classes import Classes
from everytarget.values import depth
from naive import least_names, parted, parts_of

A = ("a",)
B = ("b",)
C = ("c",)
X = ("?x",)
Y = ("?y",)


def z(*values):
    return ("0.z", values)


def w(*values):
    return ("1.w", values)


def built(values, pairs):
    classes = Classes()
    for value in values:
        classes.add(value)
    for one, other in pairs:
        classes.join_values(one, other)
    return classes


class Case(unittest.TestCase):
    def assert_parted(self, classes, values, pairs):
        """The classes are those of trying: what is equal, how many, the roots, the names, the clash."""
        where = parted(values, pairs)
        names = least_names(where)
        every = sorted(where)
        self.assertEqual(classes.count(), len(set(where.values())))
        for value in every:
            self.assertEqual(classes.name(value), names[value], value)
            self.assertIn(classes.root(value), where)
            self.assertEqual(where[classes.root(value)], where[value])
        for one, other in itertools.product(every, repeat=2):
            self.assertIs(classes.same(one, other), where[one] == where[other], (one, other))
            self.assertIs(classes.root(one) == classes.root(other), where[one] == where[other])
        self.assertEqual(classes.count(), len(set(where.values())))
        self.assertIs(classes.clash(), any(
            where[one] == where[other] for one, other in itertools.combinations(every, 2)
            if len(one) == 1 and len(other) == 1 and one[0][0] != "?" and other[0][0] != "?"))


class Adding(Case):
    def test_without_values(self):
        classes = Classes()
        self.assertEqual((classes.count(), classes.clash()), (0, False))
        self.assertIs(type(classes.count()), int)

    def test_each_value_is_alone(self):
        values = [A, B, X, z(), z(A), z(B), z(X), w(A), z(A, A), z(A, B), z(B, A)]
        classes = built(values, [])
        self.assertEqual(classes.count(), len(values))
        self.assert_parted(classes, values, [])
        for value in values:
            self.assertEqual((classes.root(value), classes.name(value)), (value, value))

    def test_a_value_is_added_once(self):
        classes = built([A, A, z(A), z(A), A], [])
        self.assertEqual(classes.count(), 2)

    def test_values_of_a_made_unknown_are_added_at_every_depth(self):
        self.assertEqual(built([z(A)], []).count(), 2)
        self.assertEqual(built([z(A, A)], []).count(), 2)
        self.assertEqual(built([z(A, B)], []).count(), 3)
        self.assertEqual(built([z()], []).count(), 1)
        self.assertEqual(built([w(z(X, w(A)), B)], []).count(), 6)
        self.assertEqual(built([w(z(X, w(A)), B), A, w(A), z(X, w(A))], []).count(), 6)

    def test_every_method_adds_its_values(self):
        for method in ("add", "root", "name"):
            classes = Classes()
            getattr(classes, method)(z(A))
            self.assertEqual(classes.count(), 2, method)
        classes = Classes()
        self.assertIs(classes.same(z(A), w(B)), False)
        self.assertEqual(classes.count(), 4)
        classes = Classes()
        classes.join_values(z(A), w(B))
        self.assertEqual(classes.count(), 3)

    def test_a_name_that_was_not_added_is_equal(self):
        classes = built([z(X)], [(X, A)])
        self.assertEqual((classes.name(z(X)), classes.count()), (z(A), 2))
        self.assertIs(classes.same(z(X), z(A)), True)
        self.assertEqual((classes.root(z(A)), classes.count()), (classes.root(z(X)), 2))

    def test_objects_do_not_share_anything(self):
        one, other = Classes(), Classes()
        one.join_values(A, B)
        other.add(A)
        self.assertEqual((one.count(), other.count(), one.clash(), other.clash()), (1, 1, True, False))


class Joining(Case):
    def test_two_values(self):
        classes = built([], [(A, X)])
        self.assertEqual(classes.count(), 1)
        self.assertIs(classes.same(A, X), True)
        self.assertIs(classes.same(A, Y), False)

    def test_a_value_with_itself(self):
        for value in (A, X, z(A)):
            classes = built([], [(value, value), (value, value)])
            self.assertEqual(classes.count(), len(parts_of(value)))
            self.assertIs(classes.clash(), False)

    def test_any_order_and_number(self):
        pairs = [(X, Y), (Y, z(A)), (z(A), w()), (X, w()), (w(), X)]
        for order in itertools.permutations(pairs):
            classes = built([], [pair[::-1] if at == 2 else pair for at, pair in enumerate(order)] + pairs)
            self.assert_parted(classes, [], pairs)

    def test_equal_by_a_chain(self):
        names = [(f"?{at}",) for at in range(30)]
        for chosen in (range(29), range(28, -1, -1), sorted(range(29), key=lambda at: at * 17 - at // 3 * 40)):
            classes = built(names, [(names[at], names[at + 1]) for at in chosen])
            self.assertEqual(classes.count(), 1)
            self.assertEqual(len({classes.root(name) for name in names}), 1)
            self.assertIs(classes.same(names[0], names[29]), True)

    def test_root_stays_until_values_are_made_equal(self):
        classes = built([A, z(A)], [(A, X), (Y, z(X))])
        roots = {value: classes.root(value) for value in (A, X, Y, z(A), z(X))}
        classes.add(w(A))
        classes.same(C, z(C))
        classes.name(z(z(X)))
        classes.root(w(w(Y)))
        self.assertEqual({value: classes.root(value) for value in roots}, roots)
        self.assertEqual(roots[A], roots[X])
        self.assertEqual({roots[Y], roots[z(A)]}, {roots[z(X)]})
        self.assertIn(roots[A], (A, X))


class Closure(Case):
    def test_the_example_of_the_document(self):
        classes = Classes()
        classes.join_values(A, X)
        self.assertIs(classes.same(z(A), z(X)), True)
        self.assertEqual(classes.name(z(X)), z(A))
        self.assertEqual(classes.name(z(A)), z(A))
        self.assertEqual(classes.count(), 2)

    def test_values_made_equal_after_the_unknowns_were_added(self):
        classes = built([z(A), z(X)], [])
        self.assertEqual((classes.count(), classes.same(z(A), z(X))), (4, False))
        classes.join_values(X, A)
        self.assertEqual((classes.count(), classes.same(z(A), z(X))), (2, True))

    def test_a_later_add_brings_the_second_one(self):
        classes = built([z(A)], [(A, X)])
        self.assertEqual(classes.count(), 2)
        classes.add(z(X))
        self.assertEqual(classes.count(), 2)
        self.assertIs(classes.same(z(X), z(A)), True)
        classes.add(w(z(X), w(A, z(A))))
        self.assertEqual(classes.count(), 4)
        self.assertIs(classes.same(w(z(A), w(X, z(X))), w(z(X), w(A, z(A)))), True)
        self.assertEqual(classes.count(), 4)

    def test_upwards_through_several_depths(self):
        one, other = A, X
        for label in ("0.z", "1.w", "0.z", "2.v", "2.v"):
            one, other = (label, (one, B)), (label, (other, B))
        classes = built([one, other], [])
        self.assertEqual(classes.count(), 13)
        classes.join_values(X, A)
        self.assertIs(classes.same(one, other), True)
        self.assertEqual(classes.count(), 7)
        self.assert_parted(classes, [one, other], [(X, A)])

    def test_all_values_must_be_equal(self):
        classes = built([z(A, B), z(X, Y)], [])
        classes.join_values(A, X)
        self.assertIs(classes.same(z(A, B), z(X, Y)), False)
        classes.join_values(Y, B)
        self.assertIs(classes.same(z(A, B), z(X, Y)), True)

    def test_values_are_equal_one_by_one(self):
        classes = built([z(A, B), z(B, A), z(X, Y), z(Y, X), z(A, A)], [(A, X), (B, Y)])
        self.assertIs(classes.same(z(A, B), z(X, Y)), True)
        self.assertIs(classes.same(z(Y, X), z(B, A)), True)
        self.assertIs(classes.same(z(A, B), z(Y, X)), False)
        self.assertIs(classes.same(z(A, A), z(A, B)), False)
        self.assertEqual(classes.count(), 5)

    def test_different_labels_are_not_equal_by_closure(self):
        for one, other in (("0.z", "1.z"), ("0.z", "0.y"), ("1.z", "11.z"), ("0.z", "0.zz")):
            classes = built([(one, (A,)), (other, (X,)), (one, ()), (other, ())], [(A, X)])
            self.assertIs(classes.same((one, (A,)), (other, (X,))), False)
            self.assertIs(classes.same((one, ()), (other, ())), False)
            self.assertEqual(classes.count(), 5)

    def test_different_numbers_of_values_are_not_equal_by_closure(self):
        values = [z(), z(A), z(A, A), z(A, A, A), z(X), z(X, A)]
        classes = built(values, [(A, X)])
        self.assertEqual(classes.count(), 5)
        self.assertIs(classes.same(z(A), z(X, A)), False)
        self.assertIs(classes.same(z(), z(X)), False)
        self.assertIs(classes.same(z(A, A), z(X, A)), True)

    def test_made_unknowns_without_values(self):
        classes = built([z(), z()], [])
        self.assertEqual(classes.count(), 1)
        classes = built([], [(z(), A), (w(), B)])
        self.assertIs(classes.same(z(), A), True)
        self.assertEqual((classes.count(), classes.clash()), (2, False))
        classes.join_values(w(z()), w(A, A))
        self.assertIs(classes.same(w(A), w(z(), z())), True)

    def test_unknowns_made_equal_do_not_make_their_values_equal(self):
        classes = built([], [(z(A), z(B))])
        self.assertIs(classes.same(A, B), False)
        self.assertEqual((classes.count(), classes.clash()), (3, False))

    def test_an_unknown_equal_to_its_own_value(self):
        classes = built([], [(z(X), X)])
        self.assertEqual(classes.count(), 1)
        self.assertIs(classes.same(z(z(z(X))), X), True)
        self.assertEqual(classes.count(), 1)
        self.assertEqual(classes.name(z(z(X))), X)

    def test_a_chain_back_to_the_beginning(self):
        value = X
        for _ in range(6):
            value = z(value)
        classes = built([value], [(value, X)])
        self.assertEqual(classes.count(), 6)
        classes.join_values(z(z(z(z(X)))), X)
        self.assertEqual(classes.count(), 2)
        classes.join_values(z(z(z(X))), X)
        self.assertEqual(classes.count(), 1)

    def test_closure_brings_a_clash(self):
        classes = built([], [(z(A), B), (z(X), C)])
        self.assertIs(classes.clash(), False)
        classes.join_values(X, A)
        self.assertIs(classes.clash(), True)

    def test_joins_while_closure_goes_on(self):
        # Each joining makes further unknowns equal, that are values of others.
        values = [w(z(X, Y), z(Y, X)), w(z(A, A), z(A, A)), z(w(X), w(Y)), z(w(A), w(A))]
        for pairs in itertools.permutations([(X, A), (Y, A), (X, Y)], 2):
            classes = built(values, pairs)
            self.assert_parted(classes, values, pairs)


class Clash(Case):
    def test_two_different_constants(self):
        classes = built([A, B], [])
        self.assertIs(classes.clash(), False)
        classes.join_values(A, B)
        self.assertIs(classes.clash(), True)

    def test_a_clash_remains(self):
        classes = built([], [(A, B), (X, C)])
        self.assertIs(classes.clash(), True)
        classes.add(z(X))
        classes.join_values(X, Y)
        self.assertIs(classes.clash(), True)

    def test_by_unknowns(self):
        classes = built([], [(A, X), (z(A), Y), (B, z(X))])
        self.assertIs(classes.clash(), False)
        classes.join_values(Y, X)
        self.assertIs(classes.clash(), True)

    def test_only_for_constants(self):
        for one, other in ((A, A), (X, Y), (A, X), (z(A), w(B)), (z(A), A), (z(), B), (("?a",), A)):
            self.assertIs(built([B, C], [(one, other)]).clash(), False, (one, other))

    def test_constants_in_two_classes(self):
        classes = built([z(A), z(B)], [(A, X), (B, Y), (z(X), w(A)), (z(B), w(B))])
        self.assertIs(classes.clash(), False)

    def test_the_clash_of_a_class_with_a_third_constant(self):
        for order in itertools.permutations([(X, A), (X, Y), (Y, B)]):
            self.assertIs(built([], order).clash(), True)
            self.assertIs(built([], order[:2]).clash(), False)


class Names(Case):
    def test_a_constant_comes_first(self):
        for value in (X, ("?0",), z(), z(A), w(z(B))):
            for pair in ((value, ("z",)), (("z",), value)):
                classes = built([], [pair])
                self.assertEqual(classes.name(value), ("z",))
                self.assertEqual(classes.name(("z",)), ("z",))

    def test_a_free_unknown_comes_before_made_ones(self):
        for value in (z(), z(A), ("0.a", ())):
            self.assertEqual(built([], [(value, ("?z",))]).name(value), ("?z",))
        self.assertEqual(built([], [(Y, X)]).name(Y), X)
        self.assertEqual(built([], [(("?9",), ("?10",))]).name(("?9",)), ("?10",))

    def test_depth_comes_before_the_label(self):
        self.assertEqual(built([], [(("0.a", (z(A),)), w(B))]).name(w(B)), w(B))
        self.assertEqual(built([], [(("0.a", (z(A),)), w(B))]).name(("0.a", (z(A),))), w(B))
        self.assertEqual(built([], [(("0.a", (z(),)), ("9.z", (A, B)))]).name(("0.a", (z(),))), ("9.z", (A, B)))

    def test_among_made_unknowns_of_the_same_depth(self):
        values = [("0.z", (A,)), ("0.z", (A, A)), ("0.z", (B,)), ("1.a", ()), ("10.a", ()), ("2.a", (A,))]
        for one, other in itertools.combinations(values, 2):
            self.assertEqual(built([], [(other, one)]).name(other), one)
        self.assertEqual(built([], [(z(X), z(A))]).name(z(A)), z(X))
        self.assertEqual(built([], list(zip(values, values[1:]))).name(("2.a", (A,))), ("0.z", (A,)))

    def test_values_go_by_their_names(self):
        classes = built([w(z(X), Y)], [(X, B), (Y, A)])
        self.assertEqual(classes.name(w(z(X), Y)), w(z(B), A))
        classes.join_values(z(B), C)
        self.assertEqual(classes.name(w(z(X), Y)), w(C, A))
        classes = built([w(z(X), w())], [(X, B), (w(), z(A))])
        self.assertEqual(classes.name(w(z(X), z(A))), w(z(B), z(A)))

    def test_the_choice_is_by_the_names_of_the_values(self):
        # ?x is the lesser value, but by then its name is c.
        classes = built([], [(z(X), z(B))])
        self.assertEqual(classes.name(z(B)), z(X))
        classes.join_values(X, C)
        self.assertEqual(classes.name(z(B)), z(B))
        self.assertEqual(classes.name(z(X)), z(B))

    def test_a_lesser_name_of_a_value_may_make_the_unknown_greater(self):
        deep = w(w(w(A)))
        classes = built([], [(z(("0.a", ()), deep), z(("0.b", ()), deep))])
        self.assertEqual(classes.name(z(("0.b", ()), deep)), z(("0.a", ()), deep))
        classes.join_values(("0.a", ()), C)
        self.assertEqual(classes.name(z(("0.b", ()), deep)), z(("0.b", ()), deep))
        classes.join_values(("0.b", ()), B)
        self.assertEqual(classes.name(z(("0.a", ()), deep)), z(B, deep))

    def test_depth_is_that_of_the_names(self):
        classes = built([], [(z(w(w(A))), ("9.z", (z(A),)))])
        self.assertEqual(classes.name(z(w(w(A)))), ("9.z", (z(A),)))
        classes.join_values(w(w(A)), Y)
        self.assertEqual(classes.name(("9.z", (z(A),))), z(Y))

    def test_an_unknown_within_its_own_class(self):
        self.assertEqual(built([], [(z(w(A)), w(A))]).name(z(w(A))), w(A))
        self.assertEqual(built([], [(z(w(A)), w(A))]).name(w(z(w(A)))), w(w(A)))
        self.assertEqual(built([], [(z(w()), w())]).name(z(z(w()))), w())
        classes = built([], [(z(z(w(A))), w(A))])
        self.assertEqual((classes.name(z(w(A))), classes.name(z(z(w(A))))), (z(w(A)), w(A)))
        classes = built([], [(z(w(A), X), w(A)), (w(A), w(z(w(A), X)))])
        self.assertEqual(classes.name(w(z(w(A), X))), w(A))

    def test_two_classes_that_stand_within_each_other(self):
        # One class has z(w(a)) and w(b), the other one has w(a) and z(w(b)).
        classes = built([], [(z(w(A)), w(B)), (z(w(B)), w(A))])
        self.assertEqual((classes.name(z(w(A))), classes.name(z(w(B)))), (w(B), w(A)))
        self.assertEqual(classes.name(z(z(z(w(A))))), w(B))

    def test_a_later_value_has_a_name(self):
        classes = built([z(X)], [(X, A)])
        self.assertEqual(classes.name(X), A)
        self.assertEqual(classes.name(w(X, z(X))), w(A, z(A)))
        self.assertEqual(classes.name(z(w(X, z(X)))), z(w(A, z(A))))
        classes.join_values(z(A), B)
        self.assertEqual(classes.name(z(w(X, z(X)))), z(w(A, B)))
        self.assertEqual(classes.name(Y), Y)

    def test_the_same_names_whatever_the_order(self):
        values = [w(X, Y), w(A, z(A)), z(w(Y, X))]
        pairs = [(X, z(Y)), (z(A), Y), (w(X, Y), z(X)), (X, z(z(X)))]
        where = parted(values, pairs)
        names = least_names(where)
        for order in itertools.permutations(pairs):
            for early in (values, values[::-1], []):
                classes = built(early, order)
                if not early:
                    for value in values:
                        classes.add(value)
                self.assertEqual({value: classes.name(value) for value in where}, names)

    def test_names_asked_for_in_between_change_nothing(self):
        values = [w(X, Y), w(A, z(A)), z(w(Y, X))]
        pairs = [(X, z(Y)), (z(A), Y), (w(X, Y), z(X)), (X, z(z(X)))]
        classes = Classes()
        for value in values:
            classes.name(value)
        for one, other in pairs:
            classes.join_values(one, other)
            classes.name(other)
            classes.root(one)
        self.assert_parted(classes, values, pairs)


class Chance(Case):
    def any_value(self, chance, deepest):
        if deepest == 0 or chance.randint(0, 2) == 0:
            return chance.choice([A, B, C, X, Y, ("?z",)])
        return (chance.choice(["0.z", "1.w", "0.a"]), tuple([
            self.any_value(chance, deepest - 1) for _ in range(chance.choice([0, 1, 1, 2]))]))

    def test_against_trying_all_pairs(self):
        chance = random.Random(12)
        for _ in range(250):
            values = [self.any_value(chance, 3) for _ in range(chance.randint(0, 5))]
            pairs = [
                (self.any_value(chance, 2), self.any_value(chance, 2)) for _ in range(chance.randint(0, 5))]
            self.assert_parted(built(values, pairs), values, pairs)
            order = chance.sample(pairs, len(pairs))
            mixed = Classes()
            for one, other in order:
                mixed.join_values(other, one)
                if chance.randint(0, 1):
                    mixed.name(self.any_value(chance, 0) if not values else chance.choice(values))
            for value in values[::-1]:
                mixed.add(value)
            where = parted(values, pairs)
            names = least_names(where)
            self.assertEqual({value: mixed.name(value) for value in where}, names)


class Large(Case):
    def test_values_deeper_than_calls_may_nest(self):
        one, other = A, X
        for _ in range(5000):
            one, other = z(one), z(other)
        classes = built([one, other], [])
        self.assertEqual(classes.count(), 10002)
        self.assertEqual(depth(classes.name(other)), 5000)
        classes.join_values(X, A)
        self.assertEqual(classes.count(), 5001)
        self.assertIs(classes.same(one, other), True)
        name = classes.name(other)
        while len(name) == 2:
            name = name[1][0]
        self.assertEqual(name, A)

    def test_many_values(self):
        begin = time.process_time()
        names = [(f"?{at}",) for at in range(3000)]
        classes = built([z(name) for name in names], [(names[at], names[at // 2]) for at in range(1, 3000)])
        self.assertEqual(classes.count(), 2)
        self.assertEqual(classes.name(z(names[2999])), z(("?0",)))
        self.assertLess(time.process_time() - begin, 5)

    def test_what_is_passed_is_not_changed(self):
        values = [w(z(X), Y), X, A, z(A)]
        before = copy.deepcopy(values)
        classes = built(values, [(values[1], values[2]), (values[0], values[3])])
        classes.name(values[0])
        self.assertEqual(values, before)


if __name__ == "__main__":
    unittest.main()
