import unittest

from tagwebs.names import is_name
from tagwebs.sets import is_set


class Names(unittest.TestCase):
    def test_names(self):
        for text in ("a", "z", "place", "abcdefgh", "zzzzzzzz"):
            self.assertIs(is_name(text), True, text)

    def test_other_strings(self):
        wrong = ["", "abcdefghi", "A", "aB", "a1", "1", "a b", " a", "a ", "a_", "a-b", "`", "{", "~", "a\n", "\n"]
        for text in wrong:
            self.assertIs(is_name(text), False, text)

    def test_every_sign(self):
        for code in range(32, 127):
            self.assertIs(is_name(chr(code)), 97 <= code <= 122, chr(code))


class Sets(unittest.TestCase):
    def test_sets(self):
        for places, count in [((), 1), ((), 0), ((0,), 1), ((0, 1, 2), 3), ((1, 3), 4), (tuple(range(8)), 8)]:
            self.assertIs(is_set(places, count), True, places)

    def test_other_tuples(self):
        wrong = [((0,), 0), ((1,), 1), ((-1,), 3), ((0, 0), 3), ((1, 0), 3), ((0, 1, 3), 3), ((0, 2, 1), 3),
                 ((-1, 0), 3), ((0, 1, 1), 3), ((10 ** 9,), 8), ((-10 ** 9,), 8)]
        for places, count in wrong:
            self.assertIs(is_set(places, count), False, places)
