"""Point [68]: the written form of plans."""

import random
import unittest

from helpers import Case
from tagwebs.errors import BadLine, BadPlan
from tagwebs.plans import Plan
from tagwebs.plantext import plan_text, read_plan
from test_plans import NAMES, some_plan


class Writing(Case):
    def test_all_kinds_of_rules(self):
        plan = Plan(["c", "a"], [("s", [(("c", "a"), ["b"], "t"), ("none", None, "s"), ("else", [], "s")]), ("t", [])])
        self.assertEqual(plan_text(plan), (
            "begin a c\nstate s\ntold a c : go b then t\nnone : stay then s\nelse : go then s\nstate t"))

    def test_without_places(self):
        self.assertEqual(plan_text(Plan([], [("s", [])])), "begin\nstate s")
        self.assertEqual(plan_text(Plan([], [("s", [(("a",), (), "s")])])), "begin\nstate s\ntold a : go then s")

    def test_names_twice(self):
        self.assertEqual(plan_text(Plan(["b", "a", "b"], [("s", [("else", ["a", "a"], "s")])])), (
            "begin a b b\nstate s\nelse : go a a then s"))


class Reading(Case):
    def test_example(self):
        plan = read_plan("begin b\nstate s\ntold c a : go a then s\nelse : stay then s")
        self.assertEqual(
            [plan.states, plan("s", "a"), plan("s", None)],
            [(("s", ((("a", "c"), ("a",), "s"), ("else", None, "s"))),), (("a",), "s"), (None, "s")])

    def test_comes_back(self):
        chance = random.Random(361)
        for _ in range(300):
            plan = some_plan(chance, 8, ["a", "none", "else", "then", "go"])
            self.assertEqual(read_plan(plan_text(plan)), plan)
        large = Plan(NAMES, [(f"s{'abcdefgh'[at % 8]}{'vwxyz'[at // 8]}", [(NAMES, NAMES, "sav")] * 10) for at in range(40)])
        self.assertEqual(read_plan(plan_text(large)), large)

    def test_places_in_any_order(self):
        self.assertEqual(
            read_plan("begin c b c\nstate s\ntold c b a : go c b b then s"),
            Plan(["b", "c", "c"], [("s", [(("a", "b", "c"), ["b", "b", "c"], "s")])]))

    def test_the_words_of_the_language_are_names_too(self):
        plan = read_plan("begin begin then\nstate state\ntold told then go : go then go then then\nnone : stay then stay\n"
                         "state then\nstate stay\ntold stay : go stay then state")
        self.assertEqual(plan, Plan(["begin", "then"], [
            ("state", [(("told", "then", "go"), ["then", "go"], "then"), ("none", None, "stay")]), ("then", []),
            ("stay", [(("stay",), ["stay"], "state")])]))
        self.assertEqual(read_plan("begin\nstate then\nelse : go then then").states, (("then", (("else", (), "then"),)),))
        self.assertEqual(read_plan("begin\nstate s\ntold none : stay then s")("s", "none"), (None, "s"))

    def test_without_places(self):
        self.assertEqual(read_plan("begin\nstate s\nelse : go then s"), Plan([], [("s", [("else", [], "s")])]))

    def test_first_line(self):
        for first in ("", " ", "begin ", "begin  a", " begin", "begin a ", "begin A", "begin a1", "begin abcdefghi", "Begin",
                      "start a", "state s", "beginn", "else : stay then s", "a", "begin a : b"):
            self.fails(BadLine(1), read_plan, first)
            self.fails(BadLine(1), read_plan, first + "\nstate s")
            self.fails(BadLine(1), read_plan, first + "\n\n")

    def test_only_the_begin_line(self):
        self.fails(BadLine(2), read_plan, "begin")
        self.fails(BadLine(2), read_plan, "begin a b")
        self.fails(BadLine(2), read_plan, "begin a a a a a a a a a a")

    def test_second_line(self):
        for second in ("", "begin", "else : stay then s", "told a : go then s", "none : stay then s", "state", "state ", "state S",
                       "state s t", " state s", "state  s", "state s ", "state abcdefghi", "State s"):
            self.fails(BadLine(2), read_plan, "begin\n" + second)
            self.fails(BadLine(2), read_plan, "begin\n" + second + "\nstate s\nwrong")

    def test_other_lines(self):
        wrong = [
            "", " ", "state", "state s t", "begin", "begin a", "told", "told a", "told : stay then s", "told a :", "told a : stay",
            "told a : stay then", "told a : stay then S", "told a : stay then s t", "told a : stay s", "told a : stay a then s",
            "told a : go then", "told a : go", "told a : go b", "told a : go b then", "told a : go B then s", "told a go b then s",
            "told a : : go then s", "told a : go : then s", "told : a : go then s", "told a b: go then s", "told a :go then s",
            "told  a : go then s", "told a : go  then s", "told a : go then  s", "told a : go then s ", " told a : go then s",
            "told a  : go then s", "told A : go then s", "told a1 : go then s", "told abcdefghi : go then s", "Told a : go then s",
            "none a : go then s", "else a : go then s", "none go then s", "none: go then s", "none", "else", "else :", ": go then s",
            "all : go then s", "a : go then s", "else : stay then s then t", "else : run then s", "else : then s", "none else : go then s",
            "told a : stay stay then s", "else : stay then", "go a then s", "else : Stay then s",
        ]
        for last in wrong:
            self.fails(BadLine(3), read_plan, "begin\nstate s\n" + last)
            self.fails(BadLine(4), read_plan, "begin\nstate s\nelse : stay then s\n" + last + "\nwrong")
            self.fails(BadLine(5), read_plan, "begin\nstate s\nelse : stay then s\nstate t\n" + last + "\nstate")

    def test_last_newline(self):
        self.fails(BadLine(3), read_plan, "begin\nstate s\n")
        self.fails(BadLine(2), read_plan, "begin\n")
        self.fails(BadLine(1), read_plan, "\n")

    def test_what_plan_raises(self):
        self.fails(BadPlan("opening", 0), read_plan, "begin a a a a a a a a a\nstate s")
        self.fails(BadPlan("states", 0), read_plan, "begin" + "\nstate s" * 41)
        self.fails(BadPlan("state", 1), read_plan, "begin" + "\nstate s" * 40)
        self.fails(BadPlan("state", 0), read_plan, "begin\nstate s" + "\nelse : stay then s" * 11)
        self.assertEqual(len(read_plan("begin\nstate s" + "\nelse : stay then s" * 10)), 1)
        self.fails(BadPlan("state", 0), read_plan, "begin\nstate s\ntold a b a : stay then s")
        self.fails(BadPlan("state", 0), read_plan, "begin\nstate s\nelse : stay then t")
        self.fails(BadPlan("state", 0), read_plan, "begin\nstate s\nelse : go a a a a a a a a a then s")
        self.fails(BadPlan("names", 0), read_plan, "begin a b c d\nstate s\ntold e f : go g h i then s")
        # The form of all lines is looked at first.
        self.fails(BadLine(42), read_plan, "begin a a a a a a a a a" + "\nstate s" * 40 + "\nstate")


if __name__ == "__main__":
    unittest.main()
