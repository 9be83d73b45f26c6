"""Points [13] and [14]: the written form of a web."""

import unittest

from helpers import Case, full, line, many_webs
from tagwebs.errors import BadLine
from tagwebs.webs import Web
from tagwebs.webtext import read_web, web_text


class Writing(Case):
    def test_example(self):
        web = Web(["a", "b"], [("b", "a", "one", (1,)), ("a", "b", "two", (0,))], beats=2)
        self.assertEqual(web_text(web), "beats 2\nplace a\nplace b\ntie a b at 0\nway b a at 1")

    def test_all_beats_are_not_written(self):
        web = Web(["x", "y"], [("y", "x", "one", (0, 1, 2))], beats=3)
        self.assertEqual(web_text(web), "beats 3\nplace x\nplace y\nway y x")
        self.assertEqual(web_text(Web(["x", "y"], [("x", "y", "two", (0, 2, 3))], beats=4)),
                         "beats 4\nplace x\nplace y\ntie x y at 0 2 3")

    def test_no_ties(self):
        self.assertEqual(web_text(Web(["abcdefgh"], [])), "beats 1\nplace abcdefgh")


class Reading(Case):
    def test_comes_back(self):
        for web in [*many_webs(41, 120, 8, 4), full(8, 4), Web(["z"], [], beats=4)]:
            self.assertEqual(read_web(web_text(web)), web)

    def test_ties_in_any_order_and_all_beats_written(self):
        text = "beats 2\nplace b\nplace a\nplace c\nway c b at 0 1\ntie a b at 0\ntie b a at 1\nway a b"
        self.assertEqual(read_web(text), Web(["b", "a", "c"], [("a", "b", "two", (0, 1)), ("c", "b", "one", (0, 1))], beats=2))

    def test_first_line(self):
        for first in ("", "beats", "beats 0", "beats 5", "beats 01", "beats  1", " beats 1", "beats 1 ", "beats 1 1",
                      "beat 1", "BEATS 1", "beats one", "beats -1", "beats +1", "place a", "beats 12", "beats \n"):
            self.fails(BadLine(1), read_web, first)
            self.fails(BadLine(1), read_web, first + "\nplace a\nplace a")
        for beats in (1, 2, 3, 4):
            self.assertEqual(read_web(f"beats {beats}\nplace a"), Web(["a"], [], beats=beats))

    def test_no_place_line(self):
        self.fails(BadLine(2), read_web, "beats 1")
        self.fails(BadLine(2), read_web, "beats 1\n")
        self.fails(BadLine(2), read_web, "beats 1\ntie a b")

    def test_place_lines(self):
        for last in ("place", "place ", "place A", "place a b", "place  b", "place a", "place abcdefghi", "Place b", "", " ",
                     "place b ", " place b", "beats 1", "b", "place 1"):
            self.fails(BadLine(3), read_web, "beats 1\nplace a\n" + last)
            self.fails(BadLine(3), read_web, "beats 1\nplace a\n" + last + "\nplace A")
        eight = "beats 1\n" + "\n".join(f"place {name}" for name in "abcdefgh")
        self.assertEqual(len(read_web(eight)), 8)
        self.fails(BadLine(10), read_web, eight + "\nplace i")
        self.fails(BadLine(4), read_web, "beats 1\nplace a\nplace b\nplace a\nplace i")

    def test_tie_lines(self):
        start = "beats 2\nplace a\nplace b\n"
        wrong = ["tie a", "tie", "way", "tie a a", "tie a c", "tie c a", "tie a b at", "tie a b at ", "tie a b at 2",
                 "tie a b at 0 0", "tie a b at 1 0", "tie a b at 0  1", "tie a b 0", "tie a b in 0", "tie a b at 00",
                 "tie a b at 01", "tie a b at -1", "tie a b at 0 1 2", "tie a b at x", "tie  a b", "tie a b ", " tie a b",
                 "Tie a b", "road a b", "", "tie a b at 0 ", "way a b AT 0", "way a b at 4", "way a b at 9",
                 "way A b", "beats 2"]
        for last in wrong:
            self.fails(BadLine(4), read_web, start + last)
            self.fails(BadLine(5), read_web, start + "tie a b\n" + last + "\ntie a a")
        for last in ("tie a b", "way b a at 1", "tie a b at 0 1", "way a b at 0"):
            self.assertEqual(len(read_web(start + last)), 2)

    def test_example(self):
        self.fails(BadLine(3), read_web, "beats 1\nplace a\ntie a b")

    def test_places_behind_ties(self):
        self.fails(BadLine(5), read_web, "beats 1\nplace a\nplace b\ntie a b\nplace c")

    def test_last_newline(self):
        self.fails(BadLine(3), read_web, "beats 1\nplace a\n")
        self.fails(BadLine(5), read_web, web_text(line(2)) + "\n")

    def test_most_ties(self):
        start = "beats 1\nplace a\nplace b" + "\ntie a b" * 100
        self.assertEqual(read_web(start), line(2))
        self.fails(BadLine(104), read_web, start + "\ntie a b")
        self.fails(BadLine(104), read_web, start + "\ntie a b\ntie a a")
        self.fails(BadLine(103), read_web, start[: -len("\ntie a b")] + "\ntie a a\ntie a b")


if __name__ == "__main__":
    unittest.main()
