import unittest

from strayplates.common import is_ascending, is_integer, is_within, least_lots, lots, plain
from tests.tools import ODD, Checks
from tests.tools import lots as told_lots


class CommonTest(unittest.TestCase, Checks):
    def test_plain(self):
        self.assertEqual(plain([1, (2, [3, "ab"]), {}]), (1, (2, (3, "ab")), {}))
        deep = []
        for _ in range(20):
            deep = [deep]
        self.assert_tuples(plain(deep))
        rows = [[1]]
        self.assertEqual((plain(rows), rows), (((1,),), [[1]]))

    def test_integers(self):
        for thing in ODD:
            self.assertIs(is_integer(thing), type(thing) is int)
        self.assertEqual([k for k in range(5) if is_within(k, 1, 3)], [1, 2, 3])
        self.assertIs(is_within(True, 0, 3), False)

    def test_ascending(self):
        for things, expected in (((), True), ((1,), True), ((1, 2, 4), True), ((1, 1), False), ((1, 3, 2), False)):
            self.assertIs(is_ascending(things), expected)

    def test_lots(self):
        for many in range(6):
            self.assertEqual(lots(many), told_lots(many))
        self.assertEqual(lots(2), [(), (0,), (1,), (0, 1)])

    def test_least_lots(self):
        self.assertEqual(least_lots([]), ())
        self.assertEqual(least_lots([(), (0,)]), ((),))
        self.assertEqual(least_lots([(1,), (0, 1), (0, 2), (1, 2), (0, 1, 2), (0, 2, 3)]), ((1,), (0, 2)))


if __name__ == "__main__":
    unittest.main()
