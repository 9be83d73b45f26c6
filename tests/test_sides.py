"""Point [38]: tables of sides."""

import unittest

from helpers import Case, full, line, oneway, ring, subsets, web_of
from tagwebs.errors import BadPost, BadSides, NotPlain
from tagwebs.sides import Sides
from tagwebs.webs import Web

RING = ring(4)


def ring_rows():
    """The rows for one seeker on a ring of four: all that the post leaves."""
    return [((), (0, 1, 2, 3)), ((0,), (1, 2, 3)), ((1,), (0, 2, 3)), ((2,), (0, 1, 3)), ((3,), (0, 1, 2))]


def full_rows(count, seekers):
    """The rows on a full web."""
    return [(post, tuple(p for p in range(count) if p not in post)) for post in subsets(range(count), seekers)]


class Making(Case):
    def test_ring(self):
        sides = self.holds(lambda rows: Sides(RING, 1, rows), ring_rows())
        self.assertEqual((sides.web, sides.seekers, len(sides)), (RING, 1, 5))
        self.assertEqual(self.keeps(sides.rows), ring_rows())
        self.assertEqual([sides.side(()), sides.side((2,))], [(0, 1, 2, 3), (0, 1, 3)])
        self.assertEqual(Sides(RING, 1, ring_rows()[::-1]).rows(), ring_rows())

    def test_copies(self):
        rows = ring_rows()
        sides = Sides(RING, 1, rows)
        rows.clear()
        sides.rows().clear()
        self.assertEqual(sides.rows(), ring_rows())

    def test_no_seekers(self):
        self.assertEqual(Sides(line(3), 0, [((), (0, 1, 2))]).rows(), [((), (0, 1, 2))])
        apart = Web(["a", "b"], [])
        self.assertEqual(Sides(apart, 0, [((), (1,))]).side(()), (1,))
        self.fails(BadSides("row", 0), Sides, apart, 0, [((), (0, 1))])
        self.fails(BadSides("row", 1), Sides, apart, 0, [((), (1,)), ((), (0,))])
        self.fails(BadSides("row", 0), Sides, line(3), 0, [((0,), (1, 2))])

    def test_many_seekers(self):
        self.assertEqual(len(Sides(full(8), 7, full_rows(8, 7))), 255)
        # The post of all places leaves no place, so it has no side.
        self.fails(BadSides("posts", 8), Sides, full(8), 8, full_rows(8, 7))
        self.fails(BadSides("row", 255), Sides, full(8), 8, [*full_rows(8, 7), (tuple(range(8)), ())])

    def test_seekers(self):
        for seekers in (-1, 9, 10 ** 9):
            self.fails(BadSides("seekers", 0), Sides, RING, seekers, [((9,), (9,))])

    def test_row(self):
        wrong = [
            ((0, 1), (2, 3)), ((1, 0), (2, 3)), ((4,), (0, 1, 2, 3)), ((-1,), (0,)), ((3,), (0, 1)), ((3,), ()), ((3,), (2, 1, 0)),
            ((3,), (0, 1, 2, 3)), ((0,), (1, 2, 3)), ((3,), (0, 0, 1, 2)),
        ]
        for row in wrong:
            self.fails(BadSides("row", 2), Sides, RING, 1, [*ring_rows()[:2], row, ((9,), (9,))])

    def test_a_side_is_a_whole_piece(self):
        self.fails(BadSides("row", 0), Sides, ring(4), 2, [((0, 2), (1, 3))])
        self.fails(BadSides("row", 0), Sides, ring(5), 2, [((0, 2), (3,))])
        self.fails(BadSides("row", 0), Sides, line(3), 1, [((1,), (0, 2))])

    def test_sides_touch(self):
        web = line(5)
        self.fails(BadSides("row", 1), Sides, web, 1, [((1,), (0,)), ((3,), (4,)), ((2,), (0, 1))])
        self.fails(BadSides("row", 2), Sides, web, 1, [((), (0, 1, 2, 3, 4)), ((2,), (3, 4)), ((1,), (0,)), ((9,), ())])
        # A passage between two sides is enough.
        self.assertEqual(len(Sides(line(3), 1, [((), (0, 1, 2)), ((0,), (1, 2)), ((1,), (0,)), ((2,), (0, 1))])), 4)
        self.assertEqual(Sides(full(3), 2, full_rows(3, 2)).side((0, 1)), (2,))
        apart = Web.tied(list("abcd"), [("a", "b"), ("c", "d")])
        self.fails(BadSides("row", 2), Sides, apart, 1, [((), (0, 1)), ((2,), (0, 1)), ((0,), (2, 3))])
        self.fails(BadSides("row", 1), Sides, apart, 1, [((3,), (0, 1)), ((), (2, 3))])

    def test_posts(self):
        for at in range(5):
            self.fails(BadSides("posts", at), Sides, RING, 1, ring_rows()[:at] + ring_rows()[at + 1:])
        self.fails(BadSides("posts", 0), Sides, RING, 1, [])
        # The posts in ascending order are (), (0,), (0, 1), (0, 2), (1,) and so on.
        rows = full_rows(3, 2)
        self.assertEqual([row[0] for row in rows], [(), (0,), (0, 1), (0, 2), (1,), (1, 2), (2,)])
        self.fails(BadSides("posts", 3), Sides, full(3), 2, rows[:3] + rows[5:])

    def test_order_of_checks(self):
        self.fails(NotPlain(), Sides, oneway(3), 9, [])
        self.fails(NotPlain(), Sides, web_of(2, 2, {(0, 0, 1), (0, 1, 0)}), 9, [])
        self.fails(BadSides("row", 0), Sides, RING, 1, [((0,), (1,))])

    def test_equal(self):
        sides = Sides(RING, 1, ring_rows())
        self.assertTrue(sides == Sides(ring(4), 1, tuple(ring_rows()[::-1])))
        self.assertFalse(sides == Sides(ring(4, 2), 1, ring_rows()))
        self.assertFalse(sides == Sides(RING, 0, ring_rows()[:1]))
        self.assertFalse(sides == ring_rows())
        self.assertFalse(Sides(Web(["a"], []), 0, [((), (0,))]) == Sides(Web(["b"], []), 0, [((), (0,))]))
        apart = Web(["a", "b"], [])
        self.assertFalse(Sides(apart, 0, [((), (0,))]) == Sides(apart, 0, [((), (1,))]))

    def test_other_posts(self):
        sides = Sides(RING, 1, ring_rows())
        for post in [(4,), (-1,), (0, 1), (1, 0), (0, 0)]:
            self.fails(BadPost(post), sides.side, post)
        self.fails(BadPost((0,)), Sides(RING, 0, ring_rows()[:1]).side, (0,))


if __name__ == "__main__":
    unittest.main()
