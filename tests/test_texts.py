"""Points [2] and [26] to [29]: the texts of programs and questions, their faults and their printed forms."""

import copy
import pathlib
import random
import re
import sys
import time
import unittest

sys.path.insert(0, str(pathlib.Path(__file__).resolve().parent))

from everytarget.errors import BadText, NotValid, TargetError
from everytarget.texts import parse, parse_question, print_program, print_question
from everytarget.values import is_program, is_question
from naive import some_program, variables

BEGIN = "source a 1\nsource e 2\ntarget b 2\ntarget c 1\ntarget d 4\n"
RELATIONS = {"source": {"a": 1, "e": 2}, "target": {"b": 2, "c": 1, "d": 4}}
LONG = "abcdefgh"
# Signs that end a line elsewhere, or look like a space.
OTHER_SIGNS = ("\r", "\t", "\v", "\f", "\x1c", "\x85", "\xa0", "\u2028", "\u3000", "\0")
RULES = (
    ("rule a(x) -> b(x, z)\n", ("make", (("a", ("x",)),), (("b", ("x", "z")),))),
    ("rule e(x, y), a(y) -> c(z), d(x, z, 'k', y)\n", (
        "make", (("e", ("x", "y")), ("a", ("y",))), (("c", ("z",)), ("d", ("x", "z", ("k",), "y"))))),
    ("rule e('a', 'b') -> c('0')\n", ("make", (("e", (("a",), ("b",))),), (("c", (("0",),)),))),
    ("rule b(x, y), b(v, y) -> x = v\n", ("same", (("b", ("x", "y")), ("b", ("v", "y"))), "x", "v")),
    ("rule c(x) -> x = x\n", ("same", (("c", ("x",)),), "x", "x")),
    ("rule b(c, '1b') -> c(b)\n", ("make", (("b", ("c", ("1b",))),), (("c", ("b",)),))),
    ("rule d(x, x, y, x) -> d(y, y, y, z), c(z), c(z1), c('z')\n", (
        "make", (("d", ("x", "x", "y", "x")),),
        (("d", ("y", "y", "y", "z")), ("c", ("z",)), ("c", ("z1",)), ("c", (("z",),))))),
)
QUESTIONS = (
    ("(x) <- b(x, y)\n", ((("x",), (("b", ("x", "y")),)),)),
    ("() <- c('k')\n", (((), (("c", (("k",),)),)),)),
    ("() <- c(x)\n() <- b(x, x), c(x)\n", (((), (("c", ("x",)),)), ((), (("b", ("x", "x")), ("c", ("x",)))))),
    ("(x, x, 'k', y) <- b(x, y), b(y, x)\n('a', '0', v, 'a') <- c(v)\n", (
        (("x", "x", ("k",), "y"), (("b", ("x", "y")), ("b", ("y", "x")))),
        ((("a",), ("0",), "v", ("a",)), (("c", ("v",)),)))),
    ("('x') <- d(x, x, x, x)\n", (((("x",),), (("d", ("x", "x", "x", "x")),)),)),
)


class Case(unittest.TestCase):
    def assert_bad(self, read, text, line, place):
        with self.assertRaises(BadText) as caught:
            read(text)
        self.assertEqual((caught.exception.line, caught.exception.place), (line, place), repr(text))

    def assert_program_line(self, row, place):
        """The row alone, and behind and before other lines, has its fault at this place."""
        self.assert_bad(parse, row, 1, place)
        self.assert_bad(parse, row + "\n", 1, place)
        self.assert_bad(parse, "\n" + row, 2, place)
        self.assert_bad(parse, BEGIN + row + "\nrule (\n", 6, place)

    def assert_question_line(self, row, place):
        self.assert_bad(parse_question, row, 1, place)
        self.assert_bad(parse_question, "() <- c(x)\n \n" + row + "\n(\n", 3, place)

    def assert_no_program(self, text):
        self.assert_bad(parse, text, 0, 0)

    def assert_no_question(self, text):
        self.assert_bad(parse_question, text, 0, 0)


class Errors(Case):
    def test_bad_text_is_a_value_error_with_two_fields(self):
        for read, text in ((parse, "source"), (parse_question, "(")):
            for kind in (ValueError, TargetError, BadText):
                self.assertRaises(kind, read, text)
            try:
                read(text)
            except NotValid:
                self.fail("another refusal")
            except BadText as error:
                self.assertEqual((error.line, error.place), (1, len(text) + 1))
                self.assertIs(type(error.line), int)
                self.assertIs(type(error.place), int)
        self.assertEqual(BadText.__bases__, (TargetError,))


class Programs(Case):
    def test_the_example_of_the_document(self):
        self.assertEqual(parse("source a 1\ntarget b 2\nrule a(x) -> b(x, z)\n"), {
            "source": {"a": 1}, "target": {"b": 2}, "rules": (("make", (("a", ("x",)),), (("b", ("x", "z")),)),)})

    def test_no_line_at_all(self):
        for text in ("", "\n", " ", "   \n", "\n\n  \n\n"):
            self.assertEqual(parse(text), {"source": {}, "target": {}, "rules": ()})

    def test_each_form_of_a_line(self):
        for row, rule in RULES:
            self.assertEqual(parse(BEGIN + row), {**RELATIONS, "rules": (rule,)})
        self.assertEqual(
            parse(BEGIN + "".join([row for row, _ in RULES])), {**RELATIONS, "rules": tuple([rule for _, rule in RULES])})

    def test_the_kinds_of_values(self):
        told = parse(BEGIN + "".join([row for row, _ in RULES]))
        self.assertTrue(is_program(told))
        self.assertEqual(list(told), ["source", "target", "rules"])
        for places in list(told["source"].values()) + list(told["target"].values()):
            self.assertIs(type(places), int)

    def test_numbers_of_places(self):
        for places in (1, 2, 3, 4):
            self.assertEqual(parse(f"source a {places}")["source"], {"a": places})
            self.assertEqual(parse(f"target a {places}")["target"], {"a": places})
        for word in ("0", "5", "9", "12", "11", "01", "44", "a", "one", "1a", "a1", "123456789"):
            self.assert_program_line(f"source a {word}", 10)
            self.assert_program_line(f"target a {word}", 10)

    def test_names_of_relations(self):
        for name in ("a", "z", "a0", LONG, "z9999999", "source", "target", "rule", "a1b2c3d4"):
            self.assertEqual(parse(f"source {name} 1"), {"source": {name: 1}, "target": {}, "rules": ()})
            self.assertEqual(
                parse(f"target {name} 1\nrule {name}(x) -> {name}(y)")["rules"],
                (("make", ((name, ("x",)),), ((name, ("y",)),)),))
        for name in (LONG + "i", "z99999999", LONG + LONG, "1", "1a", "0", "9" * 8, "A", "Ab", "_a", "?a", "'a'", "-", "."):
            self.assert_program_line(f"source {name} 1", 8)
            self.assert_program_line(f"rule {name}(x) -> b(x, y)", 6)
            if name != "'a'":
                self.assert_program_line(f"rule a({name}) -> b(x, y)", 8)
                self.assert_program_line(f"rule c(x) -> x = {name}", 18)

    def test_only_the_letters_a_to_z_and_the_digits_are_signs_of_a_name(self):
        self.assert_program_line("source aB 1", 9)
        self.assert_program_line("source a_ 1", 9)
        self.assert_program_line("source a\xe9 1", 9)
        self.assert_program_line("source a\xb2 1", 9)
        self.assert_program_line("source a \xb2", 10)
        self.assert_program_line("source a \u0661", 10)
        self.assert_program_line("source \xe9 1", 8)
        self.assert_program_line("rule a(x\xdf) -> b(x, z)", 9)

    def test_the_longest_run_is_one_part(self):
        self.assert_program_line("sourcea 1", 1)
        self.assert_program_line("source a1", 10)
        self.assert_program_line("source a1 1 1", 13)
        self.assert_program_line("source a 1target b 1", 10)
        self.assert_program_line("source a 1 target b 1", 12)
        self.assert_program_line("rulea(x) -> b(x, z)", 1)
        self.assert_program_line("rule a(xy z) -> b(x, z)", 11)
        self.assertEqual(parse("target a1 1")["target"], {"a1": 1})

    def test_spaces_between_all_parts(self):
        plain = {"source": {"a": 1}, "target": {"b": 2, "c": 1}, "rules": (
            ("make", (("a", ("x",)), ("a", (("k",),))), (("b", ("x", "z")), ("c", ("z",)))),
            ("same", (("b", ("x", "y")),), "x", "y"))}
        close = "source a 1\ntarget b 2\ntarget c 1\nrule a(x),a('k')->b(x,z),c(z)\nrule b(x,y)->x=y"
        self.assertEqual(parse(close), plain)
        wide = close.replace("source", "source ").replace("(", " ( ").replace(")", " ) ").replace(",", "  ,  ")
        wide = wide.replace("->", "   ->  ").replace("=", "  = ").replace("'k'", " 'k' ").replace("\n", "   \n   ")
        self.assertEqual(parse("   " + wide + "    "), plain)
        self.assertEqual(parse("\n  \n\n" + wide + "\n\n   \n"), plain)

    def test_no_spaces_are_needed_but_between_words(self):
        self.assertEqual(
            parse(BEGIN + "rule a(x)->b(x,'x')")["rules"], (("make", (("a", ("x",)),), (("b", ("x", ("x",))),)),))

    def test_lines_in_any_order(self):
        rows = (BEGIN + RULES[0][0]).split("\n")
        self.assertEqual(parse("\n".join(rows[::-1])), {**RELATIONS, "rules": (RULES[0][1],)})
        two = [row for row, _ in RULES[:2]]
        self.assertEqual(parse(two[1] + BEGIN + two[0])["rules"], (RULES[1][1], RULES[0][1]))

    def test_constants(self):
        for name in ("a", "0", "9a", LONG, "12345678", "source"):
            self.assertEqual(
                parse(BEGIN + f"rule a('{name}') -> c(x)")["rules"], (("make", (("a", ((name,),)),), (("c", ("x",)),)),))
        for text in (
                "''", f"'{LONG}i'", "'", "'a", "'a)", "'A'", "'aB'", "'a b'", "' a'", "'a '", "'?a'", "'a_'", "'a-'",
                "'\xe9'", "'a\xe9'", "'a,'", "'\t'", "'" + 9 * "0" + "'", "'a\"", "'a''"[:2]):
            self.assert_program_line(f"rule a({text}) -> c(x)", 8)
            self.assert_program_line(f"rule e(x,   {text}) -> c(x)", 13)
            self.assert_program_line(f"rule e(x, y) -> c({text}", 19)
        self.assert_program_line("rule a('a''b') -> c(x)", 11)
        self.assert_program_line("rule a('a'b) -> c(x)", 11)
        self.assert_program_line("rule a(b'a') -> c(x)", 9)

    def test_a_constant_where_none_can_stand(self):
        self.assert_program_line("'source' a 1", 1)
        self.assert_program_line("source 'a' 1", 8)
        self.assert_program_line("source a '1'", 10)
        self.assert_program_line("rule 'a'(x) -> c(x)", 6)
        self.assert_program_line("rule c(x) -> 'x' = x", 14)
        self.assert_program_line("rule c(x) -> x = 'x'", 18)
        self.assert_program_line("rule c(x) 'x' -> c(x)", 11)


class FaultsInLines(Case):
    def test_first_words(self):
        for row in ("sources a 1", "Source a 1", "a", "1", "(", "->", "a(x) -> b(x)", "(x) <- a(x)", "-", "<", ",", "'a'",
                    "target1 a 1", "rules a(x) -> c(x)", "ruletarget", "?", "#", "\u2192", "=", LONG + "i"):
            self.assert_program_line(row, 1)
            self.assert_program_line("   " + row, 4)

    def test_something_missing_at_the_end(self):
        for row in (
                "source", "source a", "target", "target a", "rule", "rule a", "rule a(", "rule a(x", "rule a(x,",
                "rule a('k'", "rule a(x)", "rule a(x),", "rule a(x), a", "rule a(x) ->", "rule a(x) -> c",
                "rule a(x) -> c(", "rule a(x) -> c(x", "rule a(x) -> c(x),", "rule a(x) -> c(x), c", "rule c(x) -> x =",
                "rule c(x) -> x"):
            self.assert_program_line(row, len(row) + 1)
            for many in (1, 2, 5):
                self.assert_program_line(row + " " * many, len(row) + many + 1)
                self.assert_program_line(" " * many + row + " ", len(row) + many + 2)

    def test_something_too_much_at_the_end(self):
        for row in ("source a 1", "target b 2", "rule a(x) -> c(x)", "rule c(x) -> x = x", "rule a(x) -> c(x), c(z)"):
            for part in ("a", "1", "(", ")", "'k'", "->", "=", "<-", "-", "<", ".", "#", "abcdefghijk", "\t", "'"):
                self.assert_program_line(row + " " + part, len(row) + 2)
                self.assert_program_line(row + "  " + part + "  ", len(row) + 3)
        self.assert_program_line("source a 1,", 11)
        self.assert_program_line("rule c(x) -> x = x, c(x)", 19)
        self.assert_program_line("rule c(x) -> x = x = x", 20)
        self.assert_program_line("rule a(x) -> c(x) -> c(x)", 19)
        self.assert_program_line("rule a(x) -> c(x), x = x", 22)

    def test_single_signs(self):
        self.assert_program_line("rule a(x) - c(x)", 11)
        self.assert_program_line("rule a(x) - > c(x)", 11)
        self.assert_program_line("rule a(x) > c(x)", 11)
        self.assert_program_line("rule a(x) -", 11)
        self.assert_program_line("rule a(x) < c(x)", 11)
        self.assert_program_line("rule a(x) <- c(x)", 11)
        self.assert_program_line("rule a(x) --> c(x)", 11)
        self.assert_program_line("rule a(x) ->> c(x)", 13)
        self.assert_program_line("rule a(x) => c(x)", 11)
        self.assert_program_line("rule a(x) -> - c(x)", 14)
        self.assert_program_line("rule a(x) -> c(x) <", 19)
        self.assert_program_line("rule c(x) -> x == x", 17)

    def test_atoms(self):
        self.assert_program_line("rule a() -> c(x)", 8)
        self.assert_program_line("rule a(,x) -> c(x)", 8)
        self.assert_program_line("rule a(x,) -> c(x)", 10)
        self.assert_program_line("rule a(x,,y) -> c(x)", 10)
        self.assert_program_line("rule a(x y) -> c(x)", 10)
        self.assert_program_line("rule a((x)) -> c(x)", 8)
        self.assert_program_line("rule a(x)) -> c(x)", 10)
        self.assert_program_line("rule a x -> c(x)", 8)
        self.assert_program_line("rule (x) -> c(x)", 6)
        self.assert_program_line("rule a(1) -> c(x)", 8)
        self.assert_program_line("rule a(1x) -> c(x)", 8)
        self.assert_program_line("rule a(?x) -> c(x)", 8)
        self.assert_program_line("rule a(X) -> c(x)", 8)
        self.assert_program_line("rule a(x) -> c()", 16)
        self.assert_program_line("rule a(x) -> ()", 14)
        self.assert_program_line("rule a(b(x)) -> c(x)", 9)
        self.assert_program_line(f"rule a({LONG}i) -> c(x)", 8)

    def test_commas_and_arrows(self):
        self.assert_program_line("rule , a(x) -> c(x)", 6)
        self.assert_program_line("rule -> c(x)", 6)
        self.assert_program_line("rule a(x) a(x) -> c(x)", 11)
        self.assert_program_line("rule a(x), -> c(x)", 12)
        self.assert_program_line("rule a(x),, a(x) -> c(x)", 11)
        self.assert_program_line("rule a(x) -> , c(x)", 14)
        self.assert_program_line("rule a(x) -> c(x) c(x)", 19)
        self.assert_program_line("rule a(x) -> -> c(x)", 14)
        self.assert_program_line("rule x = y", 8)
        self.assert_program_line("rule a(x) = x", 11)

    def test_same_rules(self):
        self.assert_program_line("rule c(x) -> x x", 16)
        self.assert_program_line("rule c(x) -> x = 1", 18)
        self.assert_program_line("rule c(x) -> 1 = x", 14)
        self.assert_program_line("rule c(x) -> x = 1x", 18)
        self.assert_program_line("rule c(x) -> = x", 14)
        self.assert_program_line("rule c(x) -> x = =", 18)
        self.assert_program_line(f"rule c(x) -> x = {LONG}i", 18)
        self.assert_program_line(f"rule c(x) -> {LONG}i = x", 14)
        self.assert_program_line("rule c(x) -> x, y = x", 15)
        self.assert_program_line("rule c(x) -> x = c(x)", 19)

    def test_only_a_newline_ends_a_line(self):
        for sign in OTHER_SIGNS:
            self.assert_program_line("source a 1" + sign, 11)
            self.assert_program_line("source a 1" + sign + "target b 1", 11)
            self.assert_program_line(sign, 1)
            self.assert_program_line("source" + sign + "a 1", 7)
            self.assert_program_line("source a 1  " + sign + "  ", 13)
            self.assert_program_line("rule a(" + sign + "x) -> c(x)", 8)

    def test_the_first_fault_of_several(self):
        self.assert_program_line("rule a(1) - c(?", 8)
        self.assert_program_line("source 1 9 x", 8)
        self.assert_program_line("rule a('A', ') ->", 8)
        self.assert_bad(parse, "source a 1\nsource a\nrule\n", 2, 9)
        self.assert_bad(parse, "\n\nrule a(x) -> \n-\n", 3, 14)
        self.assert_bad(parse, "source a 1 \n \n source 9 1\nsource 9 1", 3, 9)

    def test_a_fault_in_a_line_comes_before_all_others(self):
        self.assert_bad(parse, "source a 1\nsource a 1\ntarget", 3, 7)
        self.assert_bad(parse, "rule n(x) -> n(x)\nrule n(x) -> n(x)\n\n-", 4, 1)
        self.assert_bad(parse, "-\nsource a 1\nsource a 1\n", 1, 1)
        self.assert_bad(parse_question, "(x) <- c(y)\n(x, y) <- c(y)\n() <- c(y)\n  )", 4, 3)


class NoPrograms(Case):
    def test_a_second_line_for_the_same_relation(self):
        self.assert_no_program("source a 1\nsource a 1\n")
        self.assert_no_program("source a 1\nsource a 2\n")
        self.assert_no_program("target a 1\ntarget a 1\n")
        self.assert_no_program("target a 2\ntarget b 1\ntarget a 1\n")
        self.assert_no_program("source a 1\ntarget a 1\n")
        self.assert_no_program("target a 1\nsource a 2\n")
        self.assert_no_program(BEGIN + "rule a(x) -> c(x)\nsource e 2\n")

    def test_unknown_relations(self):
        self.assert_no_program(BEGIN + "rule n(x) -> c(x)\n")
        self.assert_no_program(BEGIN + "rule a(x) -> n(x)\n")
        self.assert_no_program(BEGIN + "rule a(x) -> c(x), n(x)\n")
        self.assert_no_program(BEGIN + "rule n(x) -> x = x\n")
        self.assert_no_program("rule a(x) -> c(x)\n")

    def test_wrong_numbers_of_places(self):
        self.assert_no_program(BEGIN + "rule a(x, y) -> c(x)\n")
        self.assert_no_program(BEGIN + "rule e(x) -> c(x)\n")
        self.assert_no_program(BEGIN + "rule a(x) -> b(x)\n")
        self.assert_no_program(BEGIN + "rule a(x) -> b(x, x, x)\n")
        self.assert_no_program(BEGIN + "rule a(x) -> d(x, x, x, x, x)\n")
        self.assert_no_program(BEGIN + "rule b(x) -> x = x\n")

    def test_bodies_of_both_sides(self):
        self.assert_no_program(BEGIN + "rule a(x), c(x) -> c(x)\n")
        self.assert_no_program(BEGIN + "rule b(x, y), a(x) -> x = y\n")

    def test_bodies_of_same_rules_and_heads(self):
        self.assert_no_program(BEGIN + "rule e(x, y) -> x = y\n")
        self.assert_no_program(BEGIN + "rule a(x) -> a(x)\n")
        self.assert_no_program(BEGIN + "rule a(x) -> c(x), e(x, x)\n")
        self.assert_no_program(BEGIN + "rule c(x) -> a(x)\n")

    def test_left_and_right(self):
        self.assert_no_program(BEGIN + "rule c(x) -> x = y\n")
        self.assert_no_program(BEGIN + "rule c(x) -> y = x\n")
        self.assert_no_program(BEGIN + "rule c('x') -> x = x\n")
        self.assert_no_program(BEGIN + "rule c(x) -> c = x\n")


class Questions(Case):
    def test_each_form(self):
        for text, question in QUESTIONS:
            self.assertEqual(parse_question(text), question)
            self.assertEqual(parse_question(text[:-1]), question)
            self.assertTrue(is_question(question, RELATIONS))

    def test_spaces_and_lines_without_parts(self):
        wide = "\n   \n  (  x ,'k'  )  <-  b ( x  ,  y ) , c( 'k' )   \n\n('a',y)<-c(y)"
        expected = (
            (("x", ("k",)), (("b", ("x", "y")), ("c", (("k",),)))), ((("a",), "y"), (("c", ("y",)),)))
        self.assertEqual(parse_question(wide), expected)
        self.assertEqual(parse_question("( )<-c(x)"), (((), (("c", ("x",)),)),))

    def test_it_need_not_fit_to_a_program(self):
        self.assertEqual(
            parse_question("(x) <- n(x, y, x, y, x), n(x)"),
            ((("x",), (("n", ("x", "y", "x", "y", "x")), ("n", ("x",)))),))

    def test_faults_in_lines(self):
        for row, place in (
                ("x", 1), ("(", 2), (")", 1), ("()", 3), ("() ", 4), ("() <", 4), ("() <-", 6), ("() <-  ", 8),
                ("() <- c", 8), ("() <- c(", 9), ("() <- c(x", 10), ("() <- c(x),", 12), ("() <- c(x) c(x)", 12),
                ("() <- c(x) <- c(x)", 12), ("() <- c()", 9), ("() - c(x)", 4), ("() -> c(x)", 4), ("() < - c(x)", 4),
                ("() = c(x)", 4), ("(,x) <- c(x)", 2), ("(x,) <- c(x)", 4), ("(x x) <- c(x)", 4), ("(x <- c(x)", 4),
                ("x) <- c(x)", 1), ("((x)) <- c(x)", 2), ("(1) <- c(x)", 2), ("(1x) <- c(x)", 2), ("(X) <- c(x)", 2),
                ("(?x) <- c(x)", 2), ("('') <- c(x)", 2), ("('x) <- c(x)", 2), ("('X') <- c(x)", 2),
                (f"({LONG}i) <- c(x)", 2), (f"(x, '{LONG}i') <- c(x)", 5), ("(c(x)) <- c(x)", 3), ("<- c(x)", 1),
                ("(x) <- 'c'(x)", 8), ("(x) <- (x)", 8), ("(x) <- -", 8), ("(x)  c(x)", 6), ("(x) <-- c(x)", 7),
                ("rule c(x) -> c(x)", 1), ("source c 1", 1), ("(x) <- x = x", 10), ("(x) <- c(x), x", 15),
                ("(x) <- c(x).", 12), ("(x) <- c(x)\r", 12), ("(x)\t<- c(x)", 4), ("() () <- c(x)", 4)):
            self.assert_question_line(row, place)
            self.assert_question_line("  " + row, place + 2)

    def test_no_clause(self):
        for text in ("", "\n", "  ", "\n \n\n"):
            self.assert_no_question(text)

    def test_clauses_with_different_numbers_of_slots(self):
        self.assert_no_question("(x) <- c(x)\n(x, y) <- b(x, y)\n")
        self.assert_no_question("(x) <- c(x)\n(x) <- c(x)\n() <- c(x)\n")
        self.assert_no_question("() <- c(x)\n(x) <- c(x)\n")

    def test_more_than_four_slots(self):
        self.assertEqual(len(parse_question("(x, x, x, x) <- c(x)")[0][0]), 4)
        self.assert_no_question("(x, x, x, x, x) <- c(x)\n")
        self.assert_no_question("('a', 'a', 'a', 'a', 'a') <- c(x)\n" * 2)

    def test_a_slot_that_is_not_in_the_body(self):
        self.assert_no_question("(y) <- c(x)\n")
        self.assert_no_question("(x, y) <- c(x)\n")
        self.assert_no_question("(x) <- c('x')\n")
        self.assert_no_question("(c) <- c(x)\n")
        self.assert_no_question("(x) <- c(x)\n(x) <- c(y)\n")
        self.assertEqual(parse_question("('y') <- c(x)"), (((("y",),), (("c", ("x",)),)),))


class Printing(Case):
    def test_programs_to_the_letter(self):
        text = BEGIN + "".join([row for row, _ in RULES])
        self.assertEqual(print_program(parse(text)), text)
        for row, rule in RULES:
            self.assertEqual(print_program({**RELATIONS, "rules": (rule,)}), BEGIN + row)

    def test_the_order_of_the_lines(self):
        mixed = {
            "source": {"m": 1, "b1": 2, "b": 3}, "target": {"z": 4, "a": 1}, "rules": (RULES[4][1], RULES[3][1])}
        self.assertEqual(
            print_program(mixed),
            "source b 3\nsource b1 2\nsource m 1\ntarget a 1\ntarget z 4\n" + RULES[4][0] + RULES[3][0])

    def test_the_examples_of_the_document(self):
        text = "source a 1\ntarget b 2\nrule a(x) -> b(x, z)\n"
        self.assertEqual(print_program(parse(text)), text)
        self.assertEqual(print_question(((("x",), (("q", ("x", "y")),)),)), "(x) <- q(x, y)\n")

    def test_nothing_to_print(self):
        self.assertEqual(print_program({"source": {}, "target": {}, "rules": ()}), "")
        self.assertEqual(print_program({"source": {"a": 1}, "target": {}, "rules": ()}), "source a 1\n")

    def test_questions_to_the_letter(self):
        for text, question in QUESTIONS:
            self.assertEqual(print_question(question), text)

    def test_spaces_and_empty_lines_change_nothing(self):
        for text, read, show in (
                [(BEGIN + "".join([row for row, _ in RULES]), parse, print_program)]
                + [(text, parse_question, print_question) for text, _ in QUESTIONS]):
            parts = re.findall(r"\w+|'\w+'|->|<-|[(),=\n]", text)
            wide = "".join(["\n  \n\n" if part == "\n" else "  " + part + " " for part in parts])
            self.assertEqual(show(read(wide)), text)
            close = re.sub(r" *([(),=]|->|<-) *", r"\1", text)
            self.assertEqual(show(read(close)), text)

    def test_programs_by_chance(self):
        chance = random.Random(29)
        for _ in range(300):
            told = some_program(chance)
            self.assertEqual(parse(print_program(told)), told)
            heads = [rule[1] for rule in told["rules"] if rule[1][0][0] in told["target"]]
            if heads:
                names = variables(heads[0])
                slots = tuple([chance.choice(names + [("k",), ("0",)]) for _ in range(chance.randint(0, 4))])
                question = ((slots, heads[0]), (slots[::-1], heads[0] + heads[-1]))
                self.assertEqual(parse_question(print_question(question)), question)


# Another way to the place of a fault: what may follow on what, as a table.
KINDS = re.compile(r"(?P<word>[a-z0-9]+)|(?P<constant>'[a-z0-9]{1,8}')|(?P<mark>->|<-|[(),=])")
SLOT = {"name": 0, "constant": 0}
PROGRAM_TABLE = {
    "begin": {"source": "relation", "target": "relation", "rule": "body"},
    "relation": {"name": "places"}, "places": {"number": "end"}, "end": {"end": None},
    "body": {"name": "body ("}, "body (": {"(": "body slot"}, "body slot": dict.fromkeys(SLOT, "body ,"),
    "body ,": {",": "body slot", ")": "behind body"}, "behind body": {",": "body", "->": "head or left"},
    "head or left": {"name": "( or ="}, "( or =": {"(": "head slot", "=": "right"}, "right": {"name": "end"},
    "head": {"name": "head ("}, "head (": {"(": "head slot"}, "head slot": dict.fromkeys(SLOT, "head ,"),
    "head ,": {",": "head slot", ")": "behind head"}, "behind head": {",": "head", "end": None}}
QUESTION_TABLE = {
    "begin": {"(": "first slot"}, "first slot": {**dict.fromkeys(SLOT, "slot ,"), ")": "arrow"},
    "slot": dict.fromkeys(SLOT, "slot ,"), "slot ,": {",": "slot", ")": "arrow"}, "arrow": {"<-": "head"},
    "head": PROGRAM_TABLE["head"], "head (": PROGRAM_TABLE["head ("], "head slot": PROGRAM_TABLE["head slot"],
    "head ,": PROGRAM_TABLE["head ,"], "behind head": PROGRAM_TABLE["behind head"]}


def kinds_of(found):
    if found.lastgroup != "word":
        return ["constant"] if found.lastgroup == "constant" else [found.group()]
    word = found.group()
    kinds = [word] if word in ("source", "target", "rule") else []
    kinds += ["name"] if word[0].isalpha() and len(word) <= 8 else []
    return kinds + (["number"] if word in ("1", "2", "3", "4") else [])


def place_of_fault(row, table):
    """The place of the row's first fault, or None."""
    state, at = "begin", 0
    while True:
        at += len(row[at:]) - len(row[at:].lstrip(" "))
        found = KINDS.match(row, at)
        kinds = ["end"] if at == len(row) else kinds_of(found) if found else []
        fitting = [kind for kind in kinds if kind in table[state]]
        if not fitting:
            return at + 1
        state = table[state][fitting[0]]
        if state is None:
            return None
        at = found.end()


class FaultsByChance(Case):
    PIECES = (
        "source", "target", "rule", "a", "b", "x", "'k'", "'", "''", "(", ")", "()", ",", "=", "->", "<-", "-", "<", ">",
        "1", "4", "5", "12", "x1", "1x", "A", "abcdefghi", "'abcdefghi'", "'a b'", " ", "  ", "\t", "\r", "?", ".")

    def check(self, read, rows, table):
        places = [place_of_fault(row, table) if row.strip(" ") else None for row in rows]
        faults = [(at + 1, place) for at, place in enumerate(places) if place is not None]
        try:
            read("\n".join(rows))
            found = None
        except BadText as error:
            found = (error.line, error.place)
        if faults:
            self.assertEqual(found, faults[0], rows)
        else:
            self.assertIn(found, (None, (0, 0)), rows)
        return bool(faults)

    def changed(self, chance, row):
        for _ in range(chance.choice([0, 1, 1, 1, 2, 3])):
            at = chance.randint(0, len(row))
            piece = chance.choice(self.PIECES) if chance.randint(0, 2) else ""
            row = row[:at] + piece + row[at + chance.choice([0, 0, 1, 2, 4]):]
        return row

    def test_changed_lines(self):
        chance = random.Random(28)
        many = 0
        for _ in range(6000):
            rows = [self.changed(chance, row) for row in (BEGIN + RULES[chance.randint(0, 6)][0]).split("\n")[3:]]
            many += self.check(parse, rows, PROGRAM_TABLE)
            rows = [self.changed(chance, row) for row in QUESTIONS[chance.randint(0, 4)][0].split("\n")]
            many += self.check(parse_question, rows, QUESTION_TABLE)
        self.assertGreater(many, 3000)

    def test_lines_of_any_pieces(self):
        chance = random.Random(27)
        for _ in range(3000):
            row = "".join([chance.choice(self.PIECES) for _ in range(chance.randint(0, 9))])
            self.check(parse, [row], PROGRAM_TABLE)
            self.check(parse_question, [row], QUESTION_TABLE)


class Unchanged(Case):
    def test_nothing_that_is_passed_is_changed_and_what_is_returned_is_the_callers_own(self):
        text = BEGIN + RULES[0][0]
        told = parse(text)
        before = copy.deepcopy(told)
        print_program(told)
        self.assertEqual(told, before)
        told["source"]["n"] = 1
        told["rules"] = ()
        self.assertEqual(parse(text), before)

    def test_long_texts(self):
        names = [f"n{at}" for at in range(1500)]
        text = "".join([f"target {name} 2\n" for name in sorted(names)])
        text += "".join([f"rule {name}(x, y) -> {name}(y, 'k')\n" for name in names])
        begin = time.process_time()
        self.assertEqual(print_program(parse(text)), text)
        self.assert_bad(parse, text + "rule", 3001, 5)
        self.assertLess(time.process_time() - begin, 3)


if __name__ == "__main__":
    unittest.main()
