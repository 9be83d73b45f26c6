"""Points [74] and [75]: plans that act alike, and the one form of a plan."""

import random
import unittest
from itertools import product

from helpers import Case
from playing import asked
from tagwebs.plans import Plan
from tagwebs.plantext import plan_text, read_plan
from tagwebs.shortening import alike, shortened
from test_plans import some_plan

# No plan here tells of the name zz, so it stands for all other names.
TELLINGS = ("zz", None, "a", "b", "c")


def actions(plan, state, tellings):
    """The actions that follow the tellings, one after the other."""
    found = []
    for told in tellings:
        action, state = asked(plan, state, told)
        found.append(action)
    return found


def same_states(first, second):
    """All pairs of states of two plans that act alike, by taking away those that do not, again and again."""
    pairs = {(one, other) for one, _ in first.states for other, _ in second.states}
    while True:
        fewer = set()
        for one, other in pairs:
            answers = [(asked(first, one, told), asked(second, other, told)) for told in TELLINGS]
            if all(a[0] == b[0] and (a[1], b[1]) in pairs for a, b in answers):
                fewer.add((one, other))
        if fewer == pairs:
            return pairs
        pairs = fewer


def act_alike(first, second):
    return first.opening == second.opening and (first.start, second.start) in same_states(first, second)


def in_one_form(plan):
    """The plan as point [74] describes it, worked out from the pairs of states that act alike."""
    pairs = same_states(plan, plan)
    told = sorted({name for _, rules in plan.states for tells, _, _ in rules if isinstance(tells, tuple) for name in tells})
    found = [plan.start]
    for state in found:
        for telling in ["zz", None, *told]:
            then = asked(plan, state, telling)[1]
            if not any((then, other) in pairs for other in found):
                found.append(then)
    names = "abcdefghijklmnopqrstuvwxyz"
    names = [*names, *[one + two for one in names for two in names]]

    def reply(state, telling):
        action, then = asked(plan, state, telling)
        return action, [names[at] for at, other in enumerate(found) if (then, other) in pairs][0]

    states = []
    for at, state in enumerate(found):
        other = reply(state, "zz")
        rules, done = [], []
        for name in told:
            pair = reply(state, name)
            if pair != other and pair not in done:
                done.append(pair)
                rules.append((tuple(one for one in told if reply(state, one) == pair), *pair))
        if reply(state, None) != other:
            rules.append(("none", *reply(state, None)))
        if other != (None, names[at]):
            rules.append(("else", *other))
        states.append((names[at], rules))
    return Plan(plan.opening, states)


def shuffled(chance, plan):
    """A plan that acts alike: with other names of states, and a copy of each of them."""
    names = [name for name, _ in plan.states]
    fresh = {name: [f"x{name}", f"y{name}"] for name in names}
    copies = [(name, kind) for name in names for kind in (0, 1)]
    chance.shuffle(copies)
    copies = [(plan.start, 0), *[copy for copy in copies if copy != (plan.start, 0)]]
    states = []
    for name, kind in copies:
        rules = [(tells, action, chance.choice(fresh[then])) for tells, action, then in dict(plan.states)[name]]
        # What no rule fits stays in its state, which may be another copy as well.
        rules.append(("else", None, chance.choice(fresh[name])))
        states.append((fresh[name][kind], rules))
    return Plan(plan.opening, states)


class Shortened(Case):
    def test_example(self):
        plan = read_plan("begin b\nstate s\ntold a : go a then t\nstate t\ntold a : go a then s\ntold c : stay then s")
        self.assertEqual(plan_text(shortened(plan)), "begin b\nstate a\ntold a : go a then a")
        self.assertEqual(alike(plan, read_plan("begin b\nstate s\nnone : go b then s\ntold a : go a then s")), [None])

    def test_one_state(self):
        for text, wanted in [
            ("begin\nstate s", "begin\nstate a"),
            ("begin\nstate s\nelse : stay then s", "begin\nstate a"),
            ("begin\nstate s\nnone : stay then s\ntold b : stay then s", "begin\nstate a"),
            ("begin\nstate s\nelse : go then s", "begin\nstate a\nelse : go then a"),
            ("begin\nstate s\nnone : go then s", "begin\nstate a\nnone : go then a"),
            ("begin\nstate s\ntold b a : go c then s\nelse : go d then s\nnone : go c then s",
             "begin\nstate a\ntold a b : go c then a\nelse : go d then a"),
            ("begin\nstate s\nnone : stay then s\nelse : go then s", "begin\nstate a\nnone : stay then a\nelse : go then a"),
        ]:
            self.assertEqual(plan_text(self.keeps(shortened, read_plan(text))), wanted)

    def test_order_of_rules(self):
        plan = read_plan("begin a\nstate s\nelse : stay then s")
        self.assertEqual(len(shortened(plan).states[0][1]), 0)
        plan = read_plan("begin a\nstate s\nnone : go b then s\ntold d c : go a then s\ntold b : go c then s\ntold a e : go a then s\n"
                         "told f : go d then s\nelse : go d then s")
        self.assertEqual(plan_text(shortened(plan)), (
            "begin a\nstate a\ntold a c d e : go a then a\ntold b : go c then a\nnone : go b then a\nelse : go d then a"))

    def test_rules_that_never_fit(self):
        plan = read_plan("begin\nstate s\ntold b a : go a then s\ntold a : go b then t\nelse : go c then s\ntold c : go a then t\n"
                         "none : go then t\nstate t\nelse : go d then s")
        self.assertEqual(plan_text(shortened(plan)), "begin\nstate a\ntold a b : go a then a\nelse : go c then a")

    def test_none_and_no_places_are_two_actions(self):
        stay, go = read_plan("begin\nstate s\nelse : stay then s"), read_plan("begin\nstate s\nelse : go then s")
        self.assertNotEqual(shortened(stay), shortened(go))
        self.assertIsNotNone(alike(stay, go))

    def test_states_in_the_order_in_which_they_are_found(self):
        plan = read_plan(
            "begin\nstate s\ntold b : go then w\ntold a : go then v\nnone : go then u\nelse : go then t\nstate w\nelse : go a then w\n"
            "state v\nelse : go b then v\nstate u\nelse : go c then u\nstate t\nelse : go d then t")
        self.assertEqual(plan_text(shortened(plan)), (
            "begin\nstate a\ntold a : go then d\ntold b : go then e\nnone : go then c\nelse : go then b\nstate b\nelse : go d then b\n"
            "state c\nelse : go c then c\nstate d\nelse : go b then d\nstate e\nelse : go a then e"))

    def test_states_to_which_the_plan_cannot_come(self):
        plan = read_plan("begin\nstate s\ntold a : go a then s\nelse : stay then s\nstate t\nelse : go b then s\nstate u\nnone : go then t")
        self.assertEqual(plan_text(shortened(plan)), "begin\nstate a\ntold a : go a then a")
        # They cannot be come to, but the names that they tell are not told by chance either.
        plan = read_plan("begin\nstate s\nelse : go a then s\nstate t\ntold a b c : go b then s")
        self.assertEqual(plan_text(shortened(plan)), "begin\nstate a\nelse : go a then a")

    def test_a_state_to_which_only_another_name_leads(self):
        plan = read_plan("begin\nstate s\ntold a b : stay then s\nnone : stay then s\nelse : stay then t\nstate t\nelse : go a then t")
        self.assertEqual(plan_text(shortened(plan)), (
            "begin\nstate a\ntold a b : stay then a\nnone : stay then a\nelse : stay then b\nstate b\nelse : go a then b"))

    def test_more_than_26_classes(self):
        names = [f"{one}{two}" for one in "st" for two in "abcdefghijklmnopqrst"]
        for many in (26, 27, 40):
            states = [(names[at], [("else", None, names[at + 1])]) for at in range(many - 1)]
            plan = Plan([], [*states, (names[many - 1], [("none", ["a"], names[0])])])
            short = shortened(plan)
            self.assertEqual(len(short), many)
            letters = [*"abcdefghijklmnopqrstuvwxyz", *["a" + letter for letter in "abcdefghijklmn"]]
            self.assertEqual([name for name, _ in short.states], letters[:many])
            self.assertEqual(short.states[-1], (letters[many - 1], (("none", ("a",), "a"),)))
            self.assertEqual((shortened(short), alike(plan, short)), (short, None))

    def test_all(self):
        chance = random.Random(431)
        fewer = 0
        for _ in range(400):
            plan = some_plan(chance, 6)
            if chance.randrange(2) and len(plan) < 5:
                plan = shuffled(chance, plan)
            short = self.keeps(shortened, plan)
            fewer += len(short) < len(plan)
            self.assertEqual(short, in_one_form(plan))
            self.assertTrue(act_alike(plan, short))
            self.assertEqual(shortened(short), short)
            for tellings in product(TELLINGS, repeat=3):
                self.assertEqual(actions(short, short.start, tellings), actions(plan, plan.start, tellings))
        self.assertGreater(fewer, 100)


class Alike(Case):
    def test_openings(self):
        first, second = read_plan("begin a\nstate s"), read_plan("begin b\nstate s")
        self.assertEqual(self.keeps(alike, first, second), [])
        self.assertEqual(alike(first, read_plan("begin a a\nstate s")), [])
        self.assertEqual(alike(first, read_plan("begin\nstate s\nelse : go then s")), [])
        self.assertNotEqual(shortened(first), shortened(second))
        self.assertIsNone(alike(first, read_plan("begin a\nstate t\nelse : stay then t")))

    def test_after_no_telling_and_after_several(self):
        plan = read_plan("begin a\nstate s\ntold a : go a then t\nstate t\ntold b : stay then u\nstate u\nnone : go b then s")
        other = read_plan("begin a\nstate s\ntold a : go a then t\nstate t\ntold b : stay then u\nstate u\nnone : go c then s")
        self.assertEqual(alike(plan, other), ["a", "b", None])
        found = alike(plan, read_plan("begin a\nstate s\nelse : go a then s"))
        self.assertEqual(len(found), 1)
        self.assertNotEqual(found, ["a"])

    def test_a_shorter_list_behind_one_telling(self):
        # Behind all other first tellings a difference comes too, but later. None of them is to be looked at whole before another.
        ends = ("state t\nelse : stay then u\nstate u\nelse : stay then v\nstate v\nelse : go {0} then v\n"
                "state y\ntold b : stay then x\nstate x\nnone : go {0} then x")
        for rules, short in [("told c : stay then y\nelse : stay then t", "c"), ("told b : stay then y\nelse : stay then t", "b"),
                             ("none : stay then y\nelse : stay then t", None),
                             ("told b c : stay then t\nnone : stay then t\nelse : stay then y", "another")]:
            text = f"begin\nstate s\n{rules}\n{ends}"
            first, second = read_plan(text.format("a")), read_plan(text.format("b"))
            for found in (self.keeps(alike, first, second), alike(second, first)):
                self.assertEqual((len(found), found[1:]), (3, ["b", None]))
                if short == "another":
                    self.assertNotIn(found[0], ("b", "c", None))
                else:
                    self.assertEqual(found[0], short)

    def test_exactly_two_tellings(self):
        first = read_plan("begin\nstate s\ntold a : stay then t\nstate t\ntold b : go a then s")
        for text in ("begin\nstate s", "begin\nstate s\ntold a : stay then t\nstate t\ntold b : go a a then s",
                     "begin\nstate s\ntold a : stay then t\nstate t\ntold b : go then s"):
            self.assertEqual(self.keeps(alike, first, read_plan(text)), ["a", "b"])
            self.assertEqual(alike(read_plan(text), first), ["a", "b"])

    def test_as_many_tellings_as_states(self):
        names = [f"{one}{two}" for one in "st" for two in "abcdefghijklmnopqrst"]
        still = read_plan("begin\nstate s")
        for many in (2, 3, 20, 40):
            states = [(names[at], [(("a",), None, names[at + 1])]) for at in range(many - 1)]
            last = (names[many - 1], [("none", ["a"], names[0])])
            plan = Plan([], [*states, last])
            wanted = [*["a"] * (many - 1), None]
            self.assertEqual(alike(plan, still), wanted)
            self.assertEqual(alike(still, plan), wanted)
            # With a first state more, to which all but c leads back, the list is one longer.
            if many < 40:
                more = Plan([], [("z", [(("c",), None, names[0])]), *states, last])
                self.assertEqual(alike(more, still), ["c", *wanted])
            self.assertIsNone(alike(plan, shortened(plan)))

    def test_rings_of_states(self):
        def ring(size, turn):
            """A plan whose states follow one another in a ring; each turn-th one of them goes to a."""
            names = [f"{one}{two}" for one in "st" for two in "abcdefghijklmnopqrst"][:size]
            return Plan([], [(name, [("else", None if (at + 1) % turn else ["a"], names[(at + 1) % size])])
                             for at, name in enumerate(names)])

        self.assertIsNone(alike(ring(3, 3), ring(6, 3)))
        self.assertIsNone(alike(ring(6, 3), ring(39, 3)))
        for first, second, wanted in [(ring(3, 3), ring(5, 5), 3), (ring(5, 5), ring(4, 4), 4), (ring(39, 39), ring(40, 40), 39),
                                      (ring(4, 4), ring(6, 4), 8), (ring(38, 2), ring(39, 2), 40)]:
            self.assertEqual(len(self.keeps(alike, first, second)), wanted)
            self.assertEqual(len(alike(second, first)), wanted)
            self.assertNotEqual(shortened(first), shortened(second))

    def test_a_name_that_no_tells_have(self):
        first = read_plan("begin\nstate s\ntold a b : stay then s\nnone : stay then s\nelse : go a then s")
        second = read_plan("begin\nstate s\ntold c : go a then s")
        found = alike(first, second)
        self.assertEqual(len(found), 1)
        self.assertNotIn(found[0], ("a", "b", "c", None))
        self.assertRegex(found[0], "^[a-z]{1,8}$")
        for plan in (first, second):
            self.assertIn(actions(plan, plan.start, found), ([("a",)], [None]))

    def test_eight_names_in_tells(self):
        names = list("abcdefgh")
        first = Plan(names, [("s", [(tuple(names), ["a"], "s")])])
        second = Plan(names, [("s", [("none", None, "s"), ("else", ["a"], "s")])])
        found = alike(first, second)
        self.assertNotIn(found[0], [*names, None])

    def test_all(self):
        chance = random.Random(432)
        seen = {}
        plans = [some_plan(chance, 4) for _ in range(150)]
        plans = [Plan(["a"], plan.states) for plan in plans]
        for at, first in enumerate(plans):
            others = [chance.choice(plans), self.bent(chance, first)]
            others += [shuffled(chance, first)] if len(first) < 5 else []
            for second in others:
                wanted = act_alike(first, second)
                found = self.keeps(alike, first, second)
                self.assertIs(found is None, wanted)
                self.assertIs(shortened(first) == shortened(second), wanted)
                seen[None if wanted else len(found)] = seen.get(None if wanted else len(found), 0) + 1
                if wanted:
                    continue
                ends = [actions(plan, plan.start, found) for plan in (first, second)]
                self.assertEqual(ends[0][:-1], ends[1][:-1])
                self.assertNotEqual(ends[0][-1], ends[1][-1])
                for length in range(min(4, len(found))):
                    for tellings in product(TELLINGS, repeat=length):
                        self.assertEqual(actions(first, first.start, tellings), actions(second, second.start, tellings))
        self.assertTrue({None, 1, 2, 3} <= set(seen), seen)
        self.assertGreater(seen[None], 50)

    def bent(self, chance, plan):
        """The plan with one other rule in its last state."""
        name, rules = plan.states[-1]
        return Plan(plan.opening, [*plan.states[:-1], (name, [(("c",), ["b"], plan.start), *rules])])


if __name__ == "__main__":
    unittest.main()
