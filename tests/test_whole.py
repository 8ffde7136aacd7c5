"""Points [18], [19], [33], [34], [36], [38], [39] and [42] to [45] over the whole program: its parts beside each other."""

import copy
import itertools
import pathlib
import random
import sys
import time
import unittest

sys.path.insert(0, str(pathlib.Path(__file__).resolve().parent))

import naive
from everytarget.chase import Chase, chased
from everytarget.cores import alike, core, find_map, fold
from everytarget.ends import greatest_rank, judge_ranks, judge_ring, most_values, ranks, ring
from everytarget.errors import NotValid
from everytarget.kept import Keeper
from everytarget.maps import image_of, into, judge_map, values_of
from everytarget.papers import answer_paper, clash_paper, judge_answer, judge_clash
from everytarget.questions import answers, certain, is_answer
from everytarget.targets import first_fault, is_target
from everytarget.texts import parse, parse_question, print_program, print_question
from everytarget.values import depth, is_book, is_program, is_question

TEXT = """
source works 2
source leads 1

target member 2
target group 2
target head 1
target boss 2

rule works(x, y) -> member(x, g), group(g, y)
rule leads(x) -> head(x), boss(x, b)
rule member(x, g), member(x, k) -> g = k
rule head(x), boss(x, b) -> member(b, g)
"""
# Who is in a group that has a place; and who is a head.
QUESTION = "(x, 'in') <- member(x, g), group(g, y)\n(x, 'head') <- head(x)\n"


def fact(relation, *names):
    return (relation, tuple([(name,) for name in names]))


def ending_case(chance):
    """A program that ends, of any rules, with a source book and a book of known facts."""
    while True:
        told = naive.some_free_program(chance) if chance.randint(0, 2) else naive.some_program(chance)
        if ring(told) is None and greatest_rank(told) <= 4 and most_values(told, 4) <= 10 ** 6:
            source = naive.some_book(chance, naive.SOURCE, naive.CONSTANTS, 4)
            known = naive.some_book(chance, naive.TARGET, naive.CONSTANTS + naive.FREE, 3) if chance.randint(0, 1) else ()
            return told, source, known


def constants_and_free_unknowns(told, source, known):
    found = {value for _, values in source + known for value in values}
    for rule in told["rules"]:
        for _, slots in rule[1] + (rule[2] if rule[0] == "make" else ()):
            found |= {slot for slot in slots if isinstance(slot, tuple)}
    return found


def some_question(chance):
    body = naive.some_atoms(chance, naive.TARGET, ["x", "y", "v"], chance.randint(1, 2))
    names = naive.variables(body)
    return ((tuple([chance.choice(names) for _ in range(chance.randint(0, 2))]) if names else (), body),)


class OneProgram(unittest.TestCase):
    def test_from_the_text_to_the_answers(self):
        told = parse(TEXT)
        self.assertEqual(parse(print_program(told)), told)
        question = parse_question(QUESTION)
        self.assertEqual(print_question(question), QUESTION)
        self.assertTrue(is_program(told) and is_question(question, told))
        self.assertIs(judge_ranks(told, ranks(told)), True)
        self.assertIsNone(ring(told))
        source = tuple(sorted([fact("works", "ann", "x1"), fact("works", "bob", "x1"), fact("leads", "ann")]))
        kind, book = chased(told, source, ())
        self.assertEqual(kind, "target")
        self.assertEqual(first_fault(told, source, book), ("", -1))
        found = certain(question, book)
        self.assertEqual(found, [(("ann",), ("head",)), (("ann",), ("in",)), (("bob",), ("in",))])
        for answer in found:
            paper = answer_paper(told, source, (), question, answer)
            self.assertIs(judge_answer(told, source, (), question, answer, paper), True)
            self.assertIs(is_answer(question, book, answer), True)
        other = tuple(sorted([
            fact("boss", "ann", "bob"), fact("group", "g", "x1"), fact("head", "ann"), fact("member", "ann", "g"),
            fact("member", "bob", "g")]))
        self.assertIs(is_target(told, source, other), True)
        image = into(told, book, other)
        self.assertIs(judge_map(book, other, image), True)
        self.assertEqual(image_of(book, image), other)
        for answer in found:
            self.assertIn(answer, answers(question, other))
        self.assertIsNone(clash_paper(told, source, ()))
        keeper = Keeper(told)
        keeper.add(list(source))
        self.assertEqual(keeper.outcome(), (kind, book))

    def test_a_clash(self):
        told = parse("source a 2\ntarget b 2\nrule a(x, y) -> b(x, y)\nrule b(x, y), b(x, v) -> y = v\n")
        source = (fact("a", "c", "d"), fact("a", "c", "e"))
        self.assertEqual(chased(told, source, ()), ("clash", ()))
        self.assertIs(judge_clash(told, source, (), clash_paper(told, source, ())), True)
        for book in naive.all_books({"b": 2}, [("c",), ("d",), ("e",)]):
            self.assertIs(is_target(told, source, book), False)
        keeper = Keeper(told)
        self.assertEqual(keeper.add(list(source)), 1)
        self.assertEqual(keeper.outcome(), ("clash", ()))


class ProgramsThatEnd(unittest.TestCase):
    def test_outcomes_are_targets_within_the_bounds(self):
        chance = random.Random(19)
        kinds = []
        for _ in range(400):
            told, source, known = ending_case(chance)
            self.assertTrue(is_program(told))
            chase = Chase(told, source, known)
            chase.run()
            kind, book = chase.outcome()
            kinds.append(kind)
            if kind == "target":
                self.assertTrue(is_book(book, told["target"]))
                self.assertIs(is_target(told, source, book), True)
                self.assertEqual(first_fault(told, source, book), ("", -1))
                classes = chase.classes()
                for relation, values in known:
                    self.assertIn((relation, tuple([classes.name(value) for value in values])), book)
                found = ranks(told)
                for relation, values in book:
                    for at, value in enumerate(values):
                        self.assertLessEqual(depth(value), found[(relation, at)])
                constants = constants_and_free_unknowns(told, source, known)
                self.assertLessEqual(len(values_of(book)), most_values(told, len(constants)))
                self.assertLessEqual(len(set(values_of(book)) | constants), most_values(told, len(constants)))
        self.assertGreater(kinds.count("target"), 200)
        self.assertGreater(kinds.count("clash"), 3)

    def test_any_order_of_the_steps(self):
        chance = random.Random(18)
        for _ in range(100):
            told = ending_case(chance)
            expected = repr(chased(*told))
            for _ in range(3):
                chase = Chase(*told)
                while chase.make(chance.randint(0, 30)):
                    pass
                self.assertEqual(repr(chase.outcome()), expected)

    def test_maps_and_answers_in_other_targets(self):
        chance = random.Random(39)
        many = 0
        for _ in range(250):
            told, source, known = ending_case(chance)
            kind, book = chased(told, source, ())
            question = some_question(chance)
            other_kind, other = chased(told, source, known)
            if kind == "clash":
                # More is asked of a target that has known facts, too.
                self.assertEqual(other_kind, "clash")
                continue
            others = [book] + ([other] if other_kind == "target" else [])
            unknowns = [value for value in values_of(book) if not naive.is_constant(value)]
            for _ in range(6):
                image = {value: value for value in values_of(book)}
                image.update({value: chance.choice(naive.CONSTANTS + naive.FREE + unknowns) for value in unknowns})
                facts = set(image_of(book, image)) | set(naive.some_book(chance, naive.TARGET, naive.CONSTANTS, 2))
                others.append(tuple(sorted(facts)))
            for other in others:
                if is_target(told, source, other):
                    many += 1
                    image = into(told, book, other)
                    self.assertIs(judge_map(book, other, image), True)
                    self.assertIsNotNone(find_map(book, other))
                    for answer in certain(question, book):
                        self.assertIs(is_answer(question, other, answer), True)
        self.assertGreater(many, 400)

    def test_known_facts(self):
        chance = random.Random(20)
        many = 0
        for _ in range(250):
            told, source, known = ending_case(chance)
            kind, book = chased(told, source, known)
            # The same with constants for the free unknowns: a target of it is a target of the first one.
            image = {value: value if naive.is_constant(value) else chance.choice(naive.CONSTANTS) for value in values_of(known)}
            other_kind, other = chased(told, source, image_of(known, image))
            if kind == "clash":
                self.assertEqual(other_kind, "clash")
            elif other_kind == "target":
                many += 1
                self.assertIsNotNone(find_map(book, other))
                self.assertTrue(set(image_of(known, image)) <= set(other))
                question = some_question(chance)
                for answer in certain(question, book):
                    self.assertIs(is_answer(question, other, answer), True)
        self.assertGreater(many, 100)

    def test_no_target_after_a_clash(self):
        chance = random.Random(21)
        relations = {"t0": 2, "t2": 1}
        many = 0
        values = [("a",), ("b",), ("?n",)]
        books = [book for book in naive.all_books({"t0": 2}, values)]
        books = [tuple(sorted(book + more)) for book in books for more in ((), (("t2", (values[0],)),))]
        rules = [
            ("make", (("r", ("x", "y")),), (("t0", ("x", "y")),)), ("make", (("s", ("x",)),), (("t0", ("x", "z")),)),
            ("same", (("t0", ("x", "y")), ("t0", ("x", "v"))), "y", "v"), ("same", (("t0", ("x", "y")),), "x", "y"),
            ("same", (("t0", ("x", "y")), ("t2", ("v",))), "y", "v"), ("make", (("s", ("x",)),), (("t2", ("x",)),))]
        while many < 12:
            told = {"source": naive.SOURCE, "target": relations, "rules": tuple(chance.sample(rules, 3))}
            source = naive.some_book(chance, naive.SOURCE, values[:2], 3)
            outcome = chased(told, source, ())
            if outcome[0] == "clash":
                many += 1
                self.assertFalse(any(is_target(told, source, book) for book in books))
            else:
                for book in books[:: chance.randint(40, 60)]:
                    self.assertEqual(is_target(told, source, book) and into(told, outcome[1], book) is None, False)

    def test_cores_of_outcomes(self):
        chance = random.Random(42)
        shorter = 0
        for _ in range(150):
            told, source, _ = ending_case(chance)
            kind, book = chased(told, source, ())
            if kind == "target" and len(book) <= 20:
                least = core(book)
                self.assertIsNone(fold(least))
                self.assertIs(is_target(told, source, least), True)
                self.assertIsNotNone(into(told, book, least))
                self.assertIsNotNone(find_map(least, book))
                question = some_question(chance)
                self.assertEqual(certain(question, least), certain(question, book))
                shorter += least != book
                # A target that the outcome has a map into, and that has one back, has the same core.
                other = core(tuple(sorted(set(book) | set(image_of(book, into(told, book, least))))))
                self.assertIs(alike(least, other), True)
        self.assertGreater(shorter, 10)

    def test_keepers(self):
        chance = random.Random(43)
        for _ in range(60):
            told, _, _ = ending_case(chance)
            keeper = Keeper(told)
            source = set()
            for _ in range(6):
                facts = naive.some_book(chance, naive.SOURCE, naive.CONSTANTS, 3)
                gone = chance.sample(sorted(source), len(source) // 2)
                keeper.add(list(facts))
                keeper.take(gone)
                source = (source | set(facts)) - set(gone)
                self.assertEqual(keeper.source(), tuple(sorted(source)))
                self.assertEqual(repr(keeper.outcome()), repr(chased(told, keeper.source(), ())))


class ProgramsThatDoNotEnd(unittest.TestCase):
    def test_rings_are_refused(self):
        chance = random.Random(33)
        many = 0
        while many < 60:
            told = naive.some_free_program(chance)
            if ring(told) is not None:
                many += 1
                self.assertIs(judge_ring(told, ring(told)), True)
                self.assertIsNone(ranks(told))
                self.assertRaises(NotValid, Keeper, told)
                self.assertRaises(NotValid, greatest_rank, told)
                self.assertRaises(NotValid, most_values, told, 2)


class Unchanged(unittest.TestCase):
    def test_nothing_that_is_passed_is_changed(self):
        chance = random.Random(1)
        for _ in range(40):
            told, source, known = ending_case(chance)
            question = some_question(chance)
            before = copy.deepcopy((told, source, known, question))
            kind, book = chased(told, source, known)
            parse(print_program(told))
            parse_question(print_question(question))
            ranks(told), ring(told), most_values(told, 3)
            answers(question, book), certain(question, book)
            first_fault(told, source, book)
            find_map(book, book), core(book), alike(book, book)
            into(told, chased(told, source, ())[1], book)
            Keeper(told).add(list(source))
            self.assertEqual((told, source, known, question), before)


class Times(unittest.TestCase):
    def test_books_of_seven_facts_with_three_unknowns(self):
        chance = random.Random(7)
        unknowns = [("?x",), ("?y",), ("0.z", (("a",),))]
        relations = {"q": 2, "t": 1, "u": 4}
        longest = 0
        for _ in range(150):
            one, other = [
                naive.some_book(chance, relations, unknowns + naive.CONSTANTS[:1], 8)[:7] for _ in range(2)]
            begin = time.process_time()
            core(one), fold(other), find_map(one, other), alike(one, other)
            longest = max(longest, time.process_time() - begin)
        self.assertLess(longest, 0.5)

    def test_programs_of_four_rules_with_eight_facts(self):
        chance = random.Random(8)
        longest = 0
        for _ in range(100):
            told, source, known = ending_case(chance)
            begin = time.process_time()
            kind, book = chased(told, source, ())
            first_fault(told, source, book), into(told, book, book), most_values(told, 10 ** 12)
            longest = max(longest, time.process_time() - begin)
        self.assertLess(longest, 1)

    def test_the_examiner_with_bodies_of_many_atoms(self):
        told = {"source": {"s": 1}, "target": {"q": 2}, "rules": (
            ("make", tuple([("q", (one, other)) for one, other in zip("abcde", "bcdef")]), (("q", ("a", "f")),)),)}
        book = tuple(sorted([("q", pair) for pair in itertools.product([("a",), ("b",), ("?x",)], repeat=2)]))[:8]
        begin = time.process_time()
        self.assertEqual(first_fault(told, (), book), ("rule", 0))
        self.assertLess(time.process_time() - begin, 1)


if __name__ == "__main__":
    unittest.main()
