"""Points [10] and [11]: where one can go, and what hangs together."""

import unittest

from helpers import Case, full, line, many_webs, oneway, passages, ring, some_plain, web_of
from tagwebs.errors import NotPlain, UnknownPlace
from tagwebs.reaching import is_joined, pieces, reach, rim, touch
from tagwebs.webs import Web


def reached_slowly(web, beat, starts, barred):
    found = {place for place in starts if place not in barred}
    for _ in range(8):
        found |= {v for b, u, v in passages(web) if b == beat % web.beats and u in found and v not in barred}
    return tuple(sorted(found))


def subsets(count):
    return [tuple(p for p in range(count) if bits >> p & 1) for bits in range(2 ** count)]


class Reach(Case):
    def test_line(self):
        web = line(5)
        self.assertEqual(self.holds(reach, web, 0, [0], []), (0, 1, 2, 3, 4))
        self.assertEqual(self.holds(reach, web, 0, [0, 4, 0], [2, 2]), (0, 1, 3, 4))
        self.assertEqual(reach(web, 0, [2], [2]), ())
        self.assertEqual(reach(web, 0, [], []), ())
        self.assertEqual(reach(web, 0, [3, 1], [1]), (2, 3, 4))

    def test_directions_and_beats(self):
        web = web_of(4, 2, {(0, 0, 1), (0, 1, 2), (1, 2, 3), (1, 1, 0)})
        self.assertEqual([reach(web, beat, [0], []) for beat in (0, 1, 2, -1, -2)], [
            (0, 1, 2), (0,), (0, 1, 2), (0,), (0, 1, 2)])
        self.assertEqual(reach(web, 1, [2, 1], []), (0, 1, 2, 3))

    def test_all(self):
        for web in many_webs(21, 25, 4, 3):
            for beat in range(-1, web.beats):
                for starts in subsets(len(web)):
                    for barred in subsets(len(web)):
                        self.assertEqual(reach(web, beat, starts, barred), reached_slowly(web, beat, starts, barred))

    def test_wrong(self):
        web = line(3)
        self.fails(UnknownPlace(3), reach, web, 0, [0, 3, -1], [7])
        self.fails(UnknownPlace(-1), reach, web, 0, [0, 1], [1, -1, 9])


class Rim(Case):
    def test_rim(self):
        self.assertEqual(self.holds(rim, line(5), [3, 2, 3, 4]), (2,))
        self.assertEqual(rim(line(5), [1, 3]), (1, 3))
        self.assertEqual(rim(full(4), [0, 1, 2]), (0, 1, 2))
        self.assertEqual([rim(full(4), []), rim(full(4), [0, 1, 2, 3])], [(), ()])
        self.assertEqual([rim(oneway(4), [1, 2]), rim(oneway(4).backward(), [1, 2])], [(1,), (2,)])

    def test_at_some_beat(self):
        web = web_of(3, 3, {(0, 0, 1), (2, 0, 2)})
        self.assertEqual([rim(web, [1, 2]), rim(web, [0]), rim(web, [0, 1]), rim(web, [0, 2])], [(1, 2), (), (), ()])

    def test_all(self):
        for web in many_webs(22, 40, 5, 3):
            for places in subsets(len(web)):
                wanted = {v for _, u, v in passages(web) if v in places and u not in places}
                self.assertEqual(rim(web, places), tuple(sorted(wanted)))

    def test_wrong(self):
        self.fails(UnknownPlace(3), rim, line(3), [0, 3, -1])


class Pieces(Case):
    def test_pieces(self):
        self.assertEqual(self.holds(pieces, line(5), [2]), [(0, 1), (3, 4)])
        self.assertEqual(self.holds(pieces, line(5), [3, 1, 3]), [(0,), (2,), (4,)])
        self.assertEqual(pieces(line(2), [0, 1]), [])
        self.assertEqual(pieces(line(3), []), [(0, 1, 2)])
        web = Web.tied(["a", "b", "c", "d"], [("a", "d"), ("b", "c")], beats=2)
        self.assertEqual(pieces(web, []), [(0, 3), (1, 2)])

    def test_wrong(self):
        self.fails(UnknownPlace(9), pieces, line(3), [0, 9, -1])
        self.fails(NotPlain(), pieces, oneway(3), [9])
        self.fails(NotPlain(), pieces, web_of(2, 2, {(0, 0, 1), (0, 1, 0)}), [])

    def test_the_list_is_new(self):
        self.assertEqual(self.keeps(pieces, ring(4), (1, 3)), [(0,), (2,)])


class Touch(Case):
    def test_touch(self):
        web = line(5)
        for first, second, wanted in [
            ([0], [1], True), ([1], [0], True), ([0], [2], False), ([0, 1], [4, 2], True), ([3], [3], True),
            ([], [0], False), ([0], [], False), ([], [], False), ([0, 0], [3, 4, 4], False),
        ]:
            self.assertIs(self.holds(touch, web, first, second), wanted)

    def test_wrong(self):
        self.fails(NotPlain(), touch, oneway(3), [9], [9])
        self.fails(UnknownPlace(9), touch, line(3), [0, 9], [-1])
        self.fails(UnknownPlace(-1), touch, line(3), [0], [0, -1, 9])


class Joined(Case):
    def test_joined(self):
        self.assertIs(is_joined(line(5)), True)
        self.assertIs(is_joined(Web(["a"], [])), True)
        self.assertIs(is_joined(Web(["a", "b"], [], beats=2)), False)
        self.assertIs(is_joined(Web.tied(list("abcd"), [("a", "c"), ("b", "d")])), False)
        self.fails(NotPlain(), is_joined, oneway(3))

    def test_like_pieces(self):
        import random
        chance = random.Random(23)
        for _ in range(40):
            web = some_plain(chance, 1 + chance.randrange(8), 3)
            self.assertIs(is_joined(web), reached_slowly(web, 0, [0], []) == tuple(range(len(web))))


if __name__ == "__main__":
    unittest.main()
