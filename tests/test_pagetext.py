import unittest

from strayplates.drawing import Drawing
from strayplates.errors import BadLine, TooMany
from strayplates.pagetext import read_page, write_page
from tests.lines import LineChecks, integer, is_word
from tests.test_drawing import TREE, random_deed
from tests.tools import Checks, listed, rng

EXAMPLE = ("page", "stamp tree", ".x.", "xxx", "end", "box 0 0 6 8 blue", "again 2 0 4", "put tree 1 0 green",
           "row 3 1 brown", "end", "end")
PLACE = [integer(-20, 20)] * 2
SIZES = [integer(1, 12)] * 2
GAPS = [integer(1, 9)] * 2


def options(state, head):
    """The oracle of the lines of drawings; states are (part, names of stamps, ..)."""
    part, names = state[:2]
    if part == "page":
        return ([], None, ("stamps", ())) if head == "page" else None
    if part == "rows":
        width, many = state[2:]
        if head == "end" and many > 0:
            return [], None, ("stamps", names)
        fit = set(head) <= {"x", "."} and 1 <= len(head) <= 8 and many < 6 and width in (None, len(head))
        return ([], None, ("rows", names, len(head), many + 1)) if fit else None
    if part == "stamps":
        if head == "stamp" and len(names) < 6:
            return [lambda word, ahead: is_word(word) and word not in names], None, \
                lambda words: ("rows", (*names, words[1]), None, 0)
        state = ("deeds", names, 0)
    level = state[2]
    if head == "end":
        return [], None, (None if level == 0 else ("deeds", names, level - 1))
    if head == "again" and level < 3:
        return [integer(0, 9), *PLACE], None, ("deeds", names, level + 1)
    kinds = {"box": ([*PLACE, *SIZES, lambda word, ahead: is_word(word)], None),
             "row": (PLACE, (lambda word, ahead: is_word(word), 1, 20)),
             "dots": ([*PLACE, *SIZES, *GAPS, lambda word, ahead: is_word(word)], None),
             "put": ([lambda word, ahead: word in names, *PLACE, lambda word, ahead: is_word(word)], None)}
    return (*kinds[head], state) if head in kinds else None


def last_sixth():
    """Lines with six stamps, the last of which has six strings."""
    lines = ["page"]
    for name in "abcde":
        lines += [f"stamp {name}", "x" * 8, "end"]
    return (*lines, "stamp f", *("x", ".", "x", "x", ".", "."), "end", "put f 0 0 red", "end")


class PageTextTest(unittest.TestCase, Checks, LineChecks):
    own_errors = (TooMany,)

    def assert_bad(self, line, word, *lines):
        self.assert_error(BadLine, {"line": line, "word": word}, read_page, lines)
        self.assert_error(BadLine, {"line": line, "word": word}, read_page, list(lines))

    def test_the_example(self):
        drawing = read_page(EXAMPLE)
        self.assertEqual(drawing, Drawing((TREE,), (
            ("box", 0, 0, 6, 8, "blue"),
            ("again", 2, 0, 4, (("put", "tree", 1, 0, "green"), ("row", 3, 1, ("brown",)))))))
        self.assertEqual(write_page(drawing), EXAMPLE)
        self.assertEqual(read_page(list(EXAMPLE)), drawing)
        self.assert_tuples(write_page(drawing))

    def test_the_empty_drawing(self):
        self.assertEqual(write_page(Drawing()), ("page", "end"))
        self.assertEqual(read_page(("page", "end")), Drawing())
        self.assertEqual(write_page(Drawing((), (("again", 0, -20, 20, ()),))), ("page", "again 0 -20 20", "end", "end"))

    def test_each_deed(self):
        deeds = (("box", -20, 20, 1, 12, "white"), ("row", 20, -20, ("red", "white", "blue")),
                 ("dots", 0, -1, 12, 1, 1, 9, "red"), ("put", "tree", -20, 20, "white"), ("again", 9, 1, -2, ()))
        lines = ("page", "stamp tree", ".x.", "xxx", "end", "box -20 20 1 12 white", "row 20 -20 red white blue",
                 "dots 0 -1 12 1 1 9 red", "put tree -20 20 white", "again 9 1 -2", "end", "end")
        self.assertEqual(write_page(Drawing((TREE,), deeds)), lines)
        self.assertEqual(read_page(lines), Drawing((TREE,), deeds))

    def test_words_that_cannot_stand_there(self):
        for line, word in (("", 0), (" ", 0), ("page", 0), ("shelf", 0), ("box", 1), ("box ", 1), (" box 0 0 1 1 red", 0),
                           ("box 0 0 1 1 red ", 6), ("box 0  0 1 1 red", 2), ("box 0 0 1 1", 5), ("box 0 0 1 1 Red", 5),
                           ("box 0 0 0 1 red", 3), ("box 0 0 1 13 red", 4), ("box 21 0 1 1 red", 1),
                           ("box 0 -21 1 1 red", 2), ("box 00 0 1 1 red", 1), ("box -0 0 1 1 red", 1),
                           ("box 0 01 1 1 red", 2), ("box +1 0 1 1 red", 1), ("box 0 0 1 1 red red", 6),
                           ("row 0 0", 3), ("row 0 0 red " + "red " * 19 + "red", 23), ("row 0 0 red 1", 4),
                           ("dots 0 0 1 1 0 1 red", 5), ("dots 0 0 1 1 1 10 red", 6), ("dots 0 0 1 1 1 1", 7),
                           ("put bush 0 0 red", 1), ("put Tree 0 0 red", 1), ("put tree 0 0", 4), ("put", 1),
                           ("again 10 0 0", 1), ("again -1 0 0", 1), ("again 1 21 0", 2), ("again 1 0", 3),
                           ("again 1 0 0 0", 4), ("stamp bush", 0), ("end end", 1), ("End", 0), (3, 0), (None, 0),
                           (("end",), 0)):
            self.assert_bad(6, word, *EXAMPLE[:6], line, *EXAMPLE[6:])

    def test_stamps(self):
        six = last_sixth()
        self.assertEqual(len(read_page(six).stamps), 6)
        self.assertEqual(write_page(read_page(six)), six)
        at = six.index("put f 0 0 red")
        self.assert_bad(at, 0, *six[:at], "stamp g", "x", "end", *six[at:])
        self.assert_bad(at, 0, *six[:at], "stamp Red 7")
        self.assert_bad(at - 1, 0, *six[:at - 1], "x", *six[at - 1:])
        self.assert_bad(4, 1, "page", "stamp a", "x", "end", "stamp a", "x", "end", "end")
        self.assert_bad(1, 1, "page", "stamp", "x", "end", "end")
        self.assert_bad(1, 2, "page", "stamp a b", "x", "end", "end")
        self.assert_bad(2, 0, "page", "stamp a", "end", "end")
        self.assert_bad(2, 0, "page", "stamp a", "x" * 9, "end", "end")
        self.assert_bad(2, 0, "page", "stamp a", "", "end", "end")
        self.assert_bad(2, 0, "page", "stamp a", "xo", "end", "end")
        self.assert_bad(2, 1, "page", "stamp a", "x x", "end", "end")
        self.assert_bad(3, 0, "page", "stamp a", "x.", "x", "end", "end")
        self.assert_bad(3, 1, "page", "stamp a", "x.", "end x", "end")
        self.assert_bad(3, 0, "page", "stamp a", "x.", "box 0 0 1 1 red", "end")
        self.assert_bad(2, 0, "page", "box 0 0 1 1 red", "stamp a", "x", "end", "end")

    def test_levels(self):
        deep = ("page", "again 1 0 0", "again 1 0 0", "again 1 0 0", "box 0 0 1 1 red", "end", "end", "end", "end")
        self.assertEqual(write_page(read_page(deep)), deep)
        self.assert_bad(4, 0, *deep[:4], "again 1 0 0", "end", *deep[4:])
        self.assert_bad(4, 0, *deep[:4], "again x")
        self.assert_bad(9, 0, *deep, "end")
        self.assert_bad(8, 0, *deep[:-1])

    def test_ends(self):
        self.assert_bad(0, 0)
        self.assert_bad(1, 0, "page")
        self.assert_bad(2, 0, "page", "end", "")
        self.assert_bad(2, 0, "page", "end", None)
        self.assert_bad(2, 0, "page", "stamp a")
        self.assert_bad(3, 0, "page", "stamp a", "x")
        self.assert_bad(4, 0, "page", "stamp a", "x", "end")
        self.assert_bad(0, 1, "page end", "end")
        self.assert_bad(0, 0, "Page", "end")

    def test_errors_of_the_drawing_come_behind(self):
        box = "box 0 0 1 1 red"
        self.assert_error(TooMany, {"word": "deed"}, read_page, ("page", *[box] * 41, "end"))
        self.assert_error(TooMany, {"word": "deed"}, read_page, ("page", *["again 0 0 0", "end"] * 41, "end"))
        self.assertEqual(len(read_page(("page", *[box] * 40, "end"))), 40)
        wide = ("again 9 0 0", "box 0 0 12 12 red", "box 0 0 12 12 red", "end")
        self.assert_error(TooMany, {"word": "cell"}, read_page, ("page", *wide, "end"))
        self.assert_bad(42, 0, "page", *[box] * 41, "stop")
        self.assert_bad(43, 0, "page", *[box] * 41, "end", "end")
        self.assert_bad(5, 3, "page", *wide, "box 0 0 0 1 red", "end")

    def test_many_spoilt_lines(self):
        stamps = (TREE, ("dot", ("x",)))
        deeds = (("box", 1, -2, 3, 4, "red"), ("row", 0, 0, ("red", "white")), ("dots", 1, 2, 3, 4, 5, 6, "blue"),
                 ("again", 2, 0, -4, (("put", "dot", 1, 0, "green"), ("again", 0, 0, 0, ()))), ("put", "tree", 9, 8, "tan"))
        many = self.check_spoilt(read_page, write_page, Drawing(stamps, deeds), ("page", ()), options)
        self.assertGreater(many, 100)
        self.check_spoilt(read_page, write_page, read_page(last_sixth()), ("page", ()), options)

    def test_there_and_back(self):
        chance = rng(41)
        for _ in range(300):
            deeds = [random_deed(chance) for _ in range(chance.randint(0, 4))]
            try:
                drawing = Drawing((TREE, ("dot", ("x",)))[:chance.randint(1, 2)], listed(deeds))
            except TooMany:
                continue
            lines = write_page(drawing)
            self.assertEqual(read_page(lines), drawing)
            self.assertEqual(write_page(read_page(listed(lines))), lines)


if __name__ == "__main__":
    unittest.main()
