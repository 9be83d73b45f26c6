"""Points [66] and [67]: plans."""

import random
import unittest

from helpers import Case
from tagwebs.errors import BadPlan, UnknownName
from tagwebs.plans import Plan

NAMES = ("a", "b", "c", "d", "e", "f", "g", "hhhhhhhh")


def some_plan(chance, most_states=4, places="abc"):
    """A plan with any rules."""
    names = ["s" + letter for letter in "abcdefghij"[: 1 + chance.randrange(most_states)]]
    states = []
    for name in names:
        rules = []
        for _ in range(chance.randrange(4)):
            told = tuple(chance.sample(places, 1 + chance.randrange(len(places))))
            tells = chance.choice([told, told, told, "none", "else"])
            action = chance.choice([None, *[[chance.choice(places) for _ in range(count)] for count in (0, 1, 1, 2)]])
            rules.append((tells, action, chance.choice(names)))
        states.append((name, rules))
    return Plan([chance.choice(places) for _ in range(chance.randrange(3))], states)


class Making(Case):
    def test_attributes(self):
        plan = Plan(["c", "a", "c"], [("s", [(("c", "a"), ["b", "a", "b"], "t"), ("none", None, "s")]), ("t", [("else", (), "t")])])
        self.assertEqual(plan.opening, ("a", "c", "c"))
        self.assertEqual(plan.states, (
            ("s", ((("a", "c"), ("a", "b", "b"), "t"), ("none", None, "s"))), ("t", (("else", (), "t"),))))
        self.assertEqual((len(plan), plan.start), (2, "s"))

    def test_least(self):
        plan = Plan([], [("s", [])])
        self.assertEqual((plan.opening, plan.states, len(plan), plan.start), ((), (("s", ()),), 1, "s"))

    def test_copies(self):
        opening, action = ["b"], ["c", "a"]
        rules = [(("b", "a"), action, "s")]
        states = [("s", rules)]
        plan = Plan(opening, states)
        held = (plan.opening, plan.states)
        opening.append("x")
        action.append("y")
        rules.append(("else", None, "s"))
        states.append(("t", []))
        self.assertEqual((plan.opening, plan.states), held)
        self.assertEqual(plan.states, (("s", ((("a", "b"), ("a", "c"), "s"),)),))
        tight = Plan(("b",), (("s", ((("b", "a"), ("c", "a"), "s"),)),))
        self.assertEqual(tight, plan)

    def test_equal(self):
        rules = [(("a", "b"), ["c", "a"], "s")]
        plan = Plan(["b", "a"], [("s", rules), ("t", [])])
        self.assertEqual(plan, Plan(("a", "b"), (("s", [(("b", "a"), ("a", "c"), "s")]), ("t", ()))))
        others = [
            Plan(["a"], [("s", rules), ("t", [])]), Plan(["b", "a"], [("s", rules)]), Plan(["b", "a"], [("t", []), ("s", rules)]),
            Plan(["b", "a"], [("s", [(("a", "b"), None, "s")]), ("t", [])]),
            Plan(["b", "a"], [("s", [(("a", "b"), ["c", "a"], "t")]), ("t", [])]), Plan(["b", "a"], [("s", []), ("t", [])]),
        ]
        for other in others:
            self.assertNotEqual(plan, other)
        self.assertNotEqual(plan, (plan.opening, plan.states))

    def test_the_words_of_the_language_are_names_too(self):
        names = ["none", "else", "go", "stay", "then", "told", "state", "begin"]
        plan = Plan(["none"], [(name, [((name,), [name], "then"), ("none", None, name)]) for name in names])
        self.assertEqual((len(plan), plan("go", "go"), plan("go", "none"), plan("none", None)), (
            8, (("go",), "then"), (None, "go"), (None, "none")))


class Wrong(Case):
    def test_opening(self):
        fine = [("s", [])]
        self.assertEqual(len(Plan(["a"] * 8, fine).opening), 8)
        self.assertEqual(len(Plan(NAMES, fine).opening), 8)
        for opening in (["a"] * 9, [""], ["A"], ["a", "b c"], ["a", "abcdefghi"], ["a1"], ["-"]):
            self.fails(BadPlan("opening", 0), Plan, opening, fine)
            self.fails(BadPlan("opening", 0), Plan, opening, [])
        self.fails(BadPlan("opening", 0), Plan, [*NAMES, "i"], fine)

    def test_states(self):
        many = [(f"s{one}{two}", []) for one in "abcde" for two in "abcdefgh"]
        self.assertEqual(len(Plan([], many)), 40)
        self.fails(BadPlan("states", 0), Plan, [], [*many, ("t", [])])
        self.fails(BadPlan("states", 0), Plan, [], [*many, ("s", [])] + [("S", [])])
        self.fails(BadPlan("states", 0), Plan, ["a"], [])

    def test_names_of_states(self):
        for name in ("", "S", "abcdefghi", "s1", "s t"):
            self.fails(BadPlan("state", 0), Plan, [], [(name, [])])
            self.fails(BadPlan("state", 1), Plan, [], [("s", []), (name, []), ("s", [])])
        self.fails(BadPlan("state", 2), Plan, [], [("s", []), ("t", []), ("s", []), ("t", [])])

    def test_rules(self):
        fine = ("else", None, "s")
        self.assertEqual(len(Plan([], [("s", [fine] * 10)]).states[0][1]), 10)
        self.fails(BadPlan("state", 0), Plan, [], [("s", [fine] * 11)])
        wrong = [
            ((), None, "s"), (("a", "a"), None, "s"), (("a", "b", "a"), None, "s"), (("A",), None, "s"), (("a", ""), None, "s"),
            ("", None, "s"), ("a", None, "s"), ("nobody", None, "s"), ("all", None, "s"), ("None", None, "s"),
            (("a",), ["a"] * 9, "s"), (("a",), ["A"], "s"), (("a",), ["a", ""], "s"), (("a",), ["abcdefghi"], "s"),
            (("a",), None), (("a",), None, "s", "s"), (("a",), None, "u"), (("a",), None, ""), (("a",), None, "S"), ("none", ["a b"], "s"), ("else", None, "a"),
        ]
        for rule in wrong:
            self.fails(BadPlan("state", 0), Plan, ["a"], [("s", [rule]), ("S", [])])
            self.fails(BadPlan("state", 1), Plan, ["a"], [("t", [fine]), ("s", [fine, rule])])
        # The tuple of one name that is a word.
        self.assertEqual(Plan([], [("s", [(("none",), None, "s"), (("else",), ["a"] * 8, "s")])])("s", "else")[1], "s")

    def test_a_state_that_comes_later(self):
        plan = Plan([], [("s", [("else", None, "t")]), ("t", [("none", [], "s")])])
        self.assertEqual([plan("s", None), plan("t", None)], [(None, "t"), ((), "s")])
        self.fails(BadPlan("state", 0), Plan, [], [("s", [("else", None, "t")]), ("u", [])])

    def test_names(self):
        told = (NAMES[:4], None, "s")
        goes = ("else", NAMES[4:], "s")
        self.assertEqual(len(Plan(NAMES, [("s", [told, goes])])), 1)
        self.assertEqual(len(Plan([], [("s", [told]), ("t", [goes])])), 2)
        self.fails(BadPlan("names", 0), Plan, ["x"], [("s", [told]), ("t", [goes])])
        self.fails(BadPlan("names", 0), Plan, NAMES, [("s", []), ("t", [(("x",), None, "s")])])
        self.fails(BadPlan("names", 0), Plan, NAMES, [("s", [("none", ["a", "x"], "s")])])
        # A name that cannot stand somewhere comes first, and names of states are not counted.
        self.fails(BadPlan("state", 1), Plan, ["x"], [("s", [told, goes]), ("t", [("else", None, "X")])])
        self.assertEqual(len(Plan(NAMES, [("x", []), ("y", []), ("z", [])])), 3)


class Asking(Case):
    def test_first_rule_that_fits(self):
        plan = Plan([], [("s", [(("a", "b"), ["x"], "s"), (("b", "c"), ["y"], "t"), ("none", ["z"], "t"), ("else", None, "t"),
                                (("d",), ["d"], "s")]), ("t", [])])
        wanted = {"a": (("x",), "s"), "b": (("x",), "s"), "c": (("y",), "t"), "d": (None, "t"), None: (("z",), "t"), "zz": (None, "t")}
        for told, found in wanted.items():
            self.assertEqual(plan("s", told), found)
            self.assertEqual(plan("t", told), (None, "t"))

    def test_else_fits_nothing_told_too(self):
        plan = Plan([], [("s", [("else", [], "s"), ("none", ["a"], "s")])])
        self.assertEqual([plan("s", None), plan("s", "a")], [((), "s"), ((), "s")])

    def test_no_rule_fits(self):
        plan = Plan([], [("s", [(("a",), ["a"], "t")]), ("t", [("none", ["b"], "s")])])
        self.assertEqual([plan("s", None), plan("s", "b"), plan("t", "a"), plan("t", None)], [
            (None, "s"), (None, "s"), (None, "t"), (("b",), "s")])

    def test_names_told_that_are_words(self):
        plan = Plan([], [("s", [("none", ["a"], "s"), ("else", ["b"], "s")])])
        self.assertEqual([plan("s", "none"), plan("s", "else"), plan("s", None)], [(("b",), "s"), (("b",), "s"), (("a",), "s")])

    def test_unknown_state(self):
        plan = Plan(["a"], [("s", [])])
        for state in ("t", "a", "", "S"):
            with self.assertRaises(UnknownName) as caught:
                plan(state, None)
            self.assertEqual(caught.exception.name, state)

    def test_all(self):
        chance = random.Random(351)
        for _ in range(200):
            plan = some_plan(chance)
            for name, rules in plan.states:
                for told in [None, "a", "b", "c", "d"]:
                    found = [rule for rule in rules if rule[0] == "else" or (rule[0] == "none" and told is None)
                             or (isinstance(rule[0], tuple) and told in rule[0])]
                    self.assertEqual(plan(name, told), found[0][1:] if found else (None, name))
            self.assertEqual(Plan(plan.opening, plan.states), plan)


if __name__ == "__main__":
    unittest.main()
