import unittest

from strayplates.common import Finding, Lines, Walk, is_ascending, is_integer, is_within, least_lots, line_of, lots, plain
from strayplates.errors import BadLine
from tests.tools import ODD, Checks
from tests.tools import lots as told_lots


class CommonTest(unittest.TestCase, Checks):
    def test_plain(self):
        self.assertEqual(plain([1, (2, [3, "ab"]), {}]), (1, (2, (3, "ab")), {}))
        deep = []
        for _ in range(20):
            deep = [deep]
        self.assert_tuples(plain(deep))
        rows = [[1]]
        self.assertEqual((plain(rows), rows), (((1,),), [[1]]))

    def test_integers(self):
        for thing in ODD:
            self.assertIs(is_integer(thing), type(thing) is int)
        self.assertEqual([k for k in range(5) if is_within(k, 1, 3)], [1, 2, 3])
        self.assertIs(is_within(True, 0, 3), False)

    def test_ascending(self):
        for things, expected in (((), True), ((1,), True), ((1, 2, 4), True), ((1, 1), False), ((1, 3, 2), False)):
            self.assertIs(is_ascending(things), expected)

    def test_lots(self):
        for many in range(6):
            self.assertEqual(lots(many), told_lots(many))
        self.assertEqual(lots(2), [(), (0,), (1,), (0, 1)])

    def test_least_lots(self):
        self.assertEqual(least_lots([]), ())
        self.assertEqual(least_lots([(), (0,)]), ((),))
        self.assertEqual(least_lots([(1,), (0, 1), (0, 2), (1, 2), (0, 1, 2), (0, 2, 3)]), ((1,), (0, 2)))

    def test_lines(self):
        self.assertEqual((line_of(["a", -1, "b"]), line_of(("a",))), ("a -1 b", "a"))
        walk = Lines(["one -3 x x", "two", None])
        self.assertEqual((walk.first_word(), walk.head(("two", "one")), walk.integer(-3, 3)), ("one", "one", -3))
        self.assert_error(BadLine, {"line": 0, "word": 2}, walk.take, lambda word: word == "y")
        self.assert_error(BadLine, {"line": 0, "word": 2}, walk.close)
        self.assertEqual((walk.some(lambda word: word == "x", 1, 2), walk.has_more()), (("x", "x"), False))
        self.assert_error(BadLine, {"line": 0, "word": 4}, walk.integer, 0, 3)
        self.assert_error(BadLine, {"line": 1, "word": 0}, walk.end)
        self.assert_error(BadLine, {"line": 1, "word": 0}, walk.head, ("one",))
        self.assertIsNone(walk.first_word())
        self.assert_error(BadLine, {"line": 2, "word": 0}, walk.begin)
        self.assertEqual((walk.first_word(), walk.end()), (None, None))
        self.assert_error(BadLine, {"line": 3, "word": 0}, walk.begin)

    def test_integers_of_lines(self):
        for word, low, high, number in (("0", 0, 0, 0), ("-1", -1, 0, -1), ("12", 12, 12, 12), ("9" * 40, 0, 10 ** 40, 10 ** 40 - 1)):
            walk = Lines([word])
            walk.begin()
            self.assertEqual(walk.integer(low, high), number)
        for word in ("", "-", "-0", "00", "01", "-01", "+1", "1.", "1_0", "--1", "x", "2", "-2", "9" * 400):
            walk = Lines([word])
            walk.begin()
            self.assert_error(BadLine, {"line": 0, "word": 0}, walk.integer, -1, 1)

    def test_steps_to(self):
        class Ring(Walk):
            start = 0

            def moves(self, standing):
                return [("one", None, (standing + 1) % 7), ("three", None, (standing + 3) % 7)]

        finding = Finding(Ring(), None)
        self.assertEqual(finding.standings, [0, 1, 3, 2, 4, 6, 5])
        self.assertEqual([finding.steps_to(k) for k in (0, 1, 3, 2, 4, 6, 5)], [
            (), ("one",), ("three",), ("one", "one"), ("one", "three"), ("three", "three"), ("one", "one", "three")])
        self.assertIsNone(finding.broken)


if __name__ == "__main__":
    unittest.main()
