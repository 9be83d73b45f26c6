"""Points [4] to [7]: webs, what they are asked, their ties, and the two other ways to make them."""

import copy
import unittest

from helpers import Case, full, line, many_webs, oneway, passages, web_of
from tagwebs.errors import BadNumber, BadWeb, UnknownName, UnknownPlace
from tagwebs.webs import Web

PAIR = [("a", "b", "two", (0,))]


class Making(Case):
    def test_example(self):
        web = Web.tied(["a", "b", "c"], [("a", "b"), ("b", "c")])
        self.assertEqual([web.steps(0, 0), web.steps(1, 5), web.leads(0, 2, 0), web.plain], [(0, 1), (0, 1, 2), False, True])
        self.assertEqual(web.ties(), [("a", "b", "two", (0,)), ("b", "c", "two", (0,))])

    def test_ways_and_beats(self):
        ties = [("a", "b", "two", (0, 2)), ("c", "b", "one", (1,))]
        web = Web(["a", "b", "c"], ties, beats=3)
        self.assertEqual(passages(web), {(0, 0, 1), (0, 1, 0), (2, 0, 1), (2, 1, 0), (1, 2, 1)})
        self.assertEqual((web.places, web.beats, len(web)), (("a", "b", "c"), 3, 3))

    def test_several_ties_give_one_passage(self):
        ties = [("a", "b", "one", (0,)), ("a", "b", "two", (0,)), ("b", "a", "two", (0,)), ("a", "b", "one", (0,))]
        self.assertEqual(Web(["a", "b"], ties), Web(["a", "b"], PAIR))
        self.assertEqual(Web(["a", "b"], ties).ties(), PAIR)

    def test_fewest_and_most(self):
        one = Web(["place"], [])
        self.assertEqual((len(one), one.beats, one.places, one.ties(), one.plain), (1, 1, ("place",), [], True))
        names = ["a", "b", "c", "d", "e", "f", "g", "abcdefgh"]
        web = Web(names, [("a", "abcdefgh", "two", (0, 1, 2, 3))], beats=4)
        self.assertEqual((len(web), web.beats), (8, 4))
        self.assertEqual(len(Web(["a", "b"], PAIR * 100)), 2)

    def test_tuples_for_lists(self):
        self.assertEqual(Web(("a", "b"), tuple(PAIR)), Web(["a", "b"], PAIR))

    def test_copies(self):
        places = ["a", "b"]
        ties = list(PAIR)
        web = Web(places, ties)
        self.assertEqual((places, ties), (["a", "b"], PAIR))
        places[0] = "x"
        ties.clear()
        self.assertEqual((web.places, web.ties()), (("a", "b"), PAIR))

    def test_wrong_places(self):
        self.fails(BadWeb("places", 0), Web, [], [])
        self.fails(BadWeb("places", 0), Web, list("abcdefghi"), [])
        for at, places in [(0, [""]), (0, ["A"]), (1, ["a", "a"]), (2, ["a", "b", "abcdefghi"]), (1, ["a", "b c", ""]),
                           (2, ["a", "b", "b", "a"])]:
            self.fails(BadWeb("place", at), Web, places, [])

    def test_wrong_beats(self):
        for beats in (0, 5, -1, 10 ** 9, -10 ** 9):
            self.fails(BadWeb("beats", 0), Web, ["a"], [], beats=beats)
            self.fails(BadWeb("beats", 0), Web.tied, ["a"], [], beats=beats)

    def test_wrong_ties(self):
        self.fails(BadWeb("ties", 0), Web, ["a", "b"], PAIR * 101)
        wrong = [
            ("a", "a", "two", (0,)), ("a", "x", "two", (0,)), ("x", "a", "two", (0,)), ("a", "b", "both", (0,)),
            ("a", "b", "", (0,)), ("a", "b", "two", ()), ("a", "b", "two", (2,)), ("a", "b", "two", (-1,)),
            ("a", "b", "two", (1, 0)), ("a", "b", "one", (0, 0)), ("a", "b", "one", (0, 1, 2)), ("a", "b", "one"),
            ("a", "b"), (), ("a", "b", "one", (0,), (0,)), ("", "b", "one", (0,)),
        ]
        for tie in wrong:
            self.fails(BadWeb("tie", 0), Web, ["a", "b"], [tie], beats=2)
            self.fails(BadWeb("tie", 1), Web, ["a", "b"], [*PAIR, tie, tie], beats=2)
        self.fails(BadWeb("tie", 99), Web, ["a", "b"], PAIR * 99 + wrong[:1])

    def test_order_of_checks(self):
        bad_tie = [("a", "a", "two", (0,))]
        self.fails(BadWeb("places", 0), Web, ["A"] * 9, bad_tie * 101, beats=0)
        self.fails(BadWeb("place", 1), Web, ["a", "a"], bad_tie * 101, beats=0)
        self.fails(BadWeb("beats", 0), Web, ["a"], bad_tie * 101, beats=5)
        self.fails(BadWeb("ties", 0), Web, ["a"], bad_tie * 101)
        self.fails(BadWeb("tie", 0), Web, ["a"], bad_tie * 100)


class Asking(Case):
    def test_like_a_list_of_names(self):
        web = line(3)
        self.assertEqual((list(web), len(web), "b" in web, "d" in web, "" in web, "a b" in web), (
            ["a", "b", "c"], 3, True, False, False, False))
        self.assertEqual([web.index(name) for name in web], [0, 1, 2])
        for name in ("d", "", "A", "ab", "abcdefghijk"):
            self.fails(UnknownName(name), web.index, name)

    def test_equal(self):
        web = line(3)
        self.assertTrue(web == line(3))
        self.assertFalse(web != line(3))
        others = [line(2), line(4), full(3), oneway(3), line(3, 2), Web.tied(["a", "c", "b"], [("a", "b"), ("b", "c")]),
                  Web.tied(["c", "b", "a"], [("a", "b"), ("b", "c")]), Web(["a", "b", "c"], [])]
        for other in others:
            self.assertFalse(web == other)
        self.assertFalse(Web(["a"], []) == Web(["a"], [], beats=2))
        self.assertFalse(web == "web")

    def test_leads_and_steps_take_any_beat(self):
        web = Web(["a", "b", "c"], [("a", "b", "one", (0,)), ("a", "c", "one", (2,))], beats=3)
        for beat in (-6, -3, 0, 3, 999999999, -999999999):
            self.assertEqual((web.leads(0, 1, beat), web.leads(0, 2, beat), web.steps(0, beat)), (True, False, (0, 1)))
        for beat in (-1, 2, 5, 10 ** 9 + 1 - 2, -10 ** 9):
            self.assertEqual((web.leads(0, 1, beat), web.steps(0, beat)), ({2: False, 0: True}[beat % 3], {2: (0, 2), 0: (0, 1)}[beat % 3]))
        self.assertEqual((web.steps(1, 0), web.leads(1, 0, 0), web.leads(1, 1, 0)), ((1,), False, False))

    def test_steps_of_a_late_place(self):
        self.assertEqual(full(4).steps(2, 0), (0, 1, 2, 3))
        self.assertEqual(oneway(4).steps(3, 0), (0, 3))

    def test_wrong_places(self):
        web = line(3)
        for place in (-1, 3, 10 ** 9, -10 ** 9):
            self.fails(UnknownPlace(place), web.steps, place, 0)
            self.fails(UnknownPlace(place), web.leads, place, 0, 0)
            self.fails(UnknownPlace(place), web.leads, 0, place, 0)
        self.fails(UnknownPlace(-2), web.leads, -2, 7, 0)

    def test_plain_and_doorless(self):
        some = [
            (line(3), True, True), (line(3, 4), True, True), (Web(["a"], [], beats=3), True, True),
            (oneway(3), False, True), (oneway(3, 2), False, True), (oneway(2, 2), True, True),
            (web_of(2, 2, {(0, 0, 1), (0, 1, 0)}), False, False),
            (web_of(2, 2, {(0, 0, 1), (1, 1, 0)}), False, False),
            (web_of(2, 3, {(0, 0, 1), (0, 1, 0), (1, 0, 1), (1, 1, 0), (2, 0, 1)}), False, False),
            (web_of(3, 2, {(0, 0, 1), (1, 0, 1), (0, 1, 2), (0, 2, 1), (1, 1, 2), (1, 2, 1)}), False, True),
        ]
        for web, plain, doorless in some:
            self.assertEqual((web.plain, web.doorless), (plain, doorless))
        for web in many_webs(3, 60):
            found = passages(web)
            doorless = all((b, u, v) in found for _, u, v in found for b in range(web.beats))
            symmetric = all((b, v, u) in found for b, u, v in found)
            self.assertEqual((web.plain, web.doorless), (doorless and symmetric, doorless))


class Ties(Case):
    def test_one_form(self):
        ties = [("c", "a", "one", (0, 1)), ("b", "a", "two", (1,)), ("a", "b", "one", (0,)), ("a", "b", "one", (2,)),
                ("b", "a", "one", (3,)), ("b", "c", "one", (0,)), ("c", "b", "one", (0,))]
        self.assertEqual(Web(["a", "b", "c"], ties, beats=4).ties(), [
            ("a", "b", "two", (1,)), ("a", "b", "one", (0, 2)), ("b", "a", "one", (3,)),
            ("c", "a", "one", (0, 1)), ("b", "c", "two", (0,)),
        ])

    def test_places_in_their_own_order(self):
        web = Web(["z", "a"], [("a", "z", "one", (0,)), ("a", "z", "two", (1,))], beats=2)
        self.assertEqual(web.ties(), [("z", "a", "two", (1,)), ("a", "z", "one", (0,))])

    def test_the_web_comes_back(self):
        for web in [*many_webs(4, 80, 8, 4), full(8, 4)]:
            ties = self.keeps(web.ties)
            self.assertEqual(Web(web.places, ties, beats=web.beats), web)
            self.assertEqual(Web(list(web), tuple(reversed(ties)), beats=web.beats).ties(), ties)


class OtherWays(Case):
    def test_tied(self):
        web = Web.tied(["a", "b", "c"], [("c", "a")], beats=3)
        self.assertEqual(web, Web(["a", "b", "c"], [("a", "c", "two", (0, 1, 2))], beats=3))
        self.assertEqual(Web.tied(("a", "b"), (("a", "b"),)), Web(["a", "b"], PAIR))
        self.assertEqual(Web.tied(["a", "b"], [("a", "b")] * 100), Web(["a", "b"], PAIR))

    def test_tied_wrong(self):
        self.fails(BadWeb("places", 0), Web.tied, [], [("a", "a")], beats=9)
        self.fails(BadWeb("place", 0), Web.tied, ["A"], [("a", "a")], beats=9)
        self.fails(BadWeb("ties", 0), Web.tied, ["a", "b"], [("a", "b")] * 101)
        self.fails(BadWeb("tie", 1), Web.tied, ["a", "b"], [("a", "b"), ("a", "a")])
        self.fails(BadWeb("tie", 0), Web.tied, ["a", "b"], [("a", "c"), ("a", "a")])
        self.fails(BadWeb("tie", 0), Web.tied, ["a", "b"], [("a",)])

    def test_tied_copies(self):
        pairs = [("a", "b")]
        before = copy.deepcopy(pairs)
        web = Web.tied(["a", "b"], pairs)
        self.assertEqual(pairs, before)
        pairs.clear()
        self.assertEqual(web.ties(), PAIR)

    def test_letters(self):
        self.assertEqual([Web.letters(0), Web.letters(1), Web.letters(8)], [(), ("a",), tuple("abcdefgh")])
        self.assertEqual(line(2).letters(3), ("a", "b", "c"))
        for count in (-1, 9, 26, -10 ** 9, 10 ** 9):
            self.fails(BadNumber(count), Web.letters, count)


if __name__ == "__main__":
    unittest.main()
