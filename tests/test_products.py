"""Point [12]: the two products."""

import unittest

from helpers import Case, full, line, many_webs, oneway, passages, ring
from tagwebs.errors import BadJoin
from tagwebs.products import box, strong
from tagwebs.webs import Web


class Products(Case):
    def test_box_of_lines(self):
        web = box(line(2), line(3))
        self.assertEqual(web, Web.tied(list("abcdef"), [
            ("a", "b"), ("b", "c"), ("d", "e"), ("e", "f"), ("a", "d"), ("b", "e"), ("c", "f")]))
        self.assertEqual(box(line(2), line(2)).ties(), [
            ("a", "b", "two", (0,)), ("a", "c", "two", (0,)), ("b", "d", "two", (0,)), ("c", "d", "two", (0,))])

    def test_strong_of_lines(self):
        self.assertEqual(strong(line(2), line(2)), full(4))
        self.assertEqual(strong(line(2), line(3)) - box(line(2), line(3)), Web.tied(
            list("abcdef"), [("a", "e"), ("b", "d"), ("b", "f"), ("c", "e")]))

    def test_one_place(self):
        one = Web(["x"], [])
        for product in (box, strong):
            self.assertEqual(product(one, ring(4)), ring(4))
            self.assertEqual(product(ring(4).renamed(["w", "x", "y", "z"]), one), ring(4))
            self.assertEqual(product(one, one), Web(["a"], []))

    def test_all(self):
        webs = many_webs(31, 30, 4, 2)
        count = 0
        for first in webs:
            for second in webs:
                if first.beats != second.beats or len(first) * len(second) > 8:
                    continue
                count += 1
                self.check(first, second)
        self.assertGreater(count, 100)

    def check(self, first, second):
        wide = len(second)
        one, other = passages(first), passages(second)
        boxed = {(b, u * wide + v, x * wide + v) for b, u, x in one for v in range(wide)}
        boxed |= {(b, u * wide + v, u * wide + y) for b, v, y in other for u in range(len(first))}
        both = boxed | {(b, u * wide + v, x * wide + y) for b, u, x in one for c, v, y in other if b == c}
        for made, wanted in [(self.keeps(box, first, second), boxed), (self.keeps(strong, first, second), both)]:
            self.assertEqual(passages(made), wanted)
            self.assertEqual((made.places, made.beats), (Web.letters(len(first) * wide), first.beats))

    def test_wrong(self):
        for product in (box, strong):
            self.fails(BadJoin("beats"), product, line(2), line(2, 2))
            self.fails(BadJoin("beats"), product, line(3, 3), line(3))
            self.fails(BadJoin("size"), product, line(3), line(3))
            self.fails(BadJoin("size"), product, line(8), line(2))
            self.assertEqual(len(product(oneway(4), line(2))), 8)


if __name__ == "__main__":
    unittest.main()
