import unittest

from strayplates.book import Book
from strayplates.errors import BadInk, BadLine, BadPress, BadRule, TooMany
from strayplates.press import Press
from strayplates.shelf import Shelf
from strayplates.shelftext import read_book, read_press, read_shelf, write_book, write_press, write_shelf
from tests.lines import LineChecks, integer, is_hue, is_word, one_of
from tests.tools import ROSE, SKY, SUN, Checks, random_book, rng

SHELF = ("shelf", "ink sun yellow", "ink sky blue", "over yellow green", "end")
PRESS = (*SHELF, "press", "unit sun 0", "unit sky 1", "box 0 0 0 1", "end")
BOOK = ("book", "rule red rose", "beside blue near red rose sky", "rule blue sky", "end")
SIDE = one_of("up", "left", "right", "down", "near", "hemmed")


def shelf_options(behind):
    """The oracle of the lines of a shelf, behind the end of which this state comes."""
    def options(state, head):
        if state == "shelf":
            return ([], None, "first") if head == "shelf" else None
        if head == "end":
            return [], None, behind
        if head == "ink":
            return [is_word, is_hue], None, "inks"
        return ([is_hue, is_word], None, "inks") if head == "over" and state == "inks" else None
    return options


def press_options(behind):
    def options(state, head):
        if state in ("shelf", "first", "inks"):
            return shelf_options("press")(state, head)
        if state == "press":
            return ([], None, "units") if head == "press" else None
        if head == "end":
            return [], None, behind
        if head == "unit" and state == "units":
            return [is_word, integer(0, 2)], None, "units"
        return ([integer(0, 3)] * 4, None, "boxes") if head == "box" else None
    return options


def book_options(state, head):
    if state == "book":
        return ([], None, "rules") if head == "book" else None
    told = {"end": ([], None, None), "rule": ([is_word], (is_word, 0, 5), "rules"),
            "beside": ([is_word, SIDE, is_word], (is_word, 0, 5), "rules")}
    return told.get(head)


class ShelfTextTest(unittest.TestCase, Checks, LineChecks):
    own_errors = (BadInk, BadPress, BadRule, TooMany)

    def assert_bad(self, read, line, word, *lines):
        self.assert_error(BadLine, {"line": line, "word": word}, read, lines)
        self.assert_error(BadLine, {"line": line, "word": word}, read, list(lines))

    def test_shelf(self):
        self.assertEqual(write_shelf(Shelf((SUN, SKY))), SHELF)
        self.assertEqual(read_shelf(SHELF), Shelf((SUN, SKY)))
        self.assertEqual(read_shelf(list(SHELF)), Shelf((SUN, SKY)))
        wash = Shelf((("wash", "black", (("mud", "white"), ("sand", "tan"))),))
        lines = ("shelf", "ink wash black", "over mud white", "over sand tan", "end")
        self.assertEqual((write_shelf(wash), read_shelf(lines)), (lines, wash))
        self.assert_tuples(write_shelf(wash))

    def test_press(self):
        press = Press(Shelf((SUN, SKY)), (("sun", 0), ("sky", 1)), ((0, 0, 0, 1),))
        self.assertEqual((write_press(press), read_press(PRESS)), (PRESS, press))
        two = Press(Shelf((SUN,)), (("sun", 2),), ((3, 2, 1, 0), (0, 0, 0, 0)))
        lines = ("shelf", "ink sun yellow", "end", "press", "unit sun 2", "box 3 2 1 0", "box 0 0 0 0", "end")
        self.assertEqual((write_press(two), read_press(lines)), (lines, two))

    def test_book(self):
        book = Book((("red", ("rose",)), ("blue", "near", "red", ("rose", "sky")), ("blue", ("sky",))))
        self.assertEqual((write_book(book), read_book(BOOK)), (BOOK, book))
        self.assertEqual((write_book(Book()), read_book(("book", "end"))), (("book", "end"), Book()))
        bare = Book((("red", ()), ("white", "hemmed", "red", ()), ("blue", "up", "white", tuple("abcde"))))
        lines = ("book", "rule red", "beside white hemmed red", "beside blue up white a b c d e", "end")
        self.assertEqual((write_book(bare), read_book(lines)), (lines, bare))

    def test_words_of_shelves_that_cannot_stand_there(self):
        for line, word in (("", 0), ("shelf", 0), ("unit sun 0", 0), ("ink", 1), ("ink moon", 2), ("ink moon white", 2),
                           ("ink Moon black", 1), ("ink moon black white", 3), ("over white green", 1), ("over red", 2),
                           ("over red Green", 2), ("over red white red", 3), ("over  red white", 1), ("over", 1),
                           (" over red white", 0), ("over red white ", 3), ("end end", 1), (None, 0)):
            self.assert_bad(read_shelf, 3, word, *SHELF[:3], line, *SHELF[3:])
            self.assert_bad(read_press, 3, word, *SHELF[:3], line, *PRESS[3:])
        self.assert_bad(read_shelf, 1, 0, "shelf", "over red white", *SHELF[1:])
        self.assert_bad(read_shelf, 5, 0, *SHELF, "press")
        self.assert_bad(read_shelf, 5, 0, *SHELF, "")
        self.assert_bad(read_shelf, 4, 0, *SHELF[:-1])
        self.assert_bad(read_shelf, 0, 0)
        self.assert_bad(read_shelf, 0, 0, "press")
        self.assert_bad(read_shelf, 0, 1, "shelf shelf", "end")

    def test_words_of_presses_that_cannot_stand_there(self):
        for line, word in (("unit", 1), ("unit sun", 2), ("unit sun 3", 2), ("unit sun -1", 2), ("unit sun 00", 2),
                           ("unit Sun 0", 1), ("unit sun 0 0", 3), ("box 0 0 0", 4), ("box 4 0 0 0", 1),
                           ("box 0 -0 0 0", 2), ("box 0 0 x 0", 3), ("box 0 0 0 0 0", 5), ("press", 0), ("ink a b", 0)):
            self.assert_bad(read_press, 7, word, *PRESS[:7], line, *PRESS[7:])
        self.assert_bad(read_press, 9, 0, *PRESS[:9], "unit sky 1", "end")
        self.assert_bad(read_press, 5, 0, *SHELF)
        self.assert_bad(read_press, 5, 0, *SHELF, "unit sun 0")
        self.assert_bad(read_press, 5, 1, *SHELF, "press press")
        self.assert_bad(read_press, 6, 0, *SHELF, "press")
        self.assert_bad(read_press, 10, 0, *PRESS, "end")

    def test_words_of_books_that_cannot_stand_there(self):
        for line, word in (("rule", 1), ("rule Red", 1), ("rule red a b c d e f", 7), ("rule red 1", 2), ("rule red  a", 2),
                           ("rule red ", 2), ("beside", 1), ("beside red", 2), ("beside red near", 3), ("beside red side blue", 2),
                           ("beside red up Blue", 3), ("beside red up blue a b c d e f", 9), ("beside red up blue a B", 5),
                           ("beside Red side", 1), ("book", 0), ("end rule", 1), ((), 0)):
            self.assert_bad(read_book, 2, word, *BOOK[:2], line, *BOOK[2:])
        self.assert_bad(read_book, 5, 0, *BOOK, "end")
        self.assert_bad(read_book, 4, 0, *BOOK[:-1])
        self.assert_bad(read_book, 0, 0, "rule red", "end")

    def test_errors_of_the_objects(self):
        self.assert_error(BadInk, {"number": -1}, read_shelf, ("shelf", "end"))
        six = ("shelf", *[f"ink {name} red" for name in "abcdef"], "end")
        self.assert_error(BadInk, {"number": -1}, read_shelf, six)
        self.assert_error(BadInk, {"number": 1}, read_shelf, ("shelf", "ink a red", "ink a red", "end"))
        self.assert_error(BadInk, {"number": 0}, read_shelf, ("shelf", "ink a red", "over b c", "over a c", "end"))
        thirteen = ("shelf", "ink ink red", *[f"over {sign} red" for sign in "abcdefghijklm"], "end")
        self.assert_error(BadInk, {"number": 0}, read_shelf, thirteen)
        self.assert_error(TooMany, {"word": "colour"}, read_shelf, (*thirteen[:-2], "end"))
        self.assert_error(BadPress, {"word": "units"}, read_press, (*SHELF, "press", "end"))
        self.assert_error(BadPress, {"word": "units"}, read_press, (*SHELF, "press", "unit moon 0", "end"))
        self.assert_error(BadPress, {"word": "units"}, read_press, (*SHELF, "press", "unit sun 1", "end"))
        boxes = ["box 0 0 0 0"] * 3
        self.assert_error(BadPress, {"word": "boxes"}, read_press, (*SHELF, "press", *boxes, "end"))
        wide = ("unit sun 1", "box 3 3 3 3", "box 1 1 1 1", "end")
        self.assert_error(TooMany, {"word": "lie"}, read_press, (*SHELF, "press", *wide))
        for rule in ("rule white sun", "rule red sun sky", "rule red sky sky", "beside white up white"):
            self.assert_error(BadRule, {"number": 1}, read_book, ("book", "rule red", rule, "rule white", "end"))
        self.assertEqual(len(read_book(("book", *["rule red"] * 12, "end"))), 12)
        self.assert_error(BadRule, {"number": -1}, read_book, ("book", *["rule red"] * 12, "rule white", "end"))

    def test_bad_lines_go_ahead(self):
        self.assert_bad(read_shelf, 3, 0, "shelf", "ink a red", "ink a red", "stop")
        self.assert_bad(read_press, 4, 0, "shelf", "end", "press", "unit a 0", "unit_", "end")
        self.assert_bad(read_book, 3, 0, "book", "rule white", "end", "end")
        # The shelf is made ahead of the press.
        self.assert_error(BadInk, {"number": -1}, read_press, ("shelf", "end", "press", "end"))

    def test_many_spoilt_lines(self):
        shelf = Shelf((SUN, SKY))
        press = Press(shelf, (("sun", 0), ("sky", 1)), ((0, 1, 2, 3),))
        self.assertGreater(self.check_spoilt(read_shelf, write_shelf, shelf, "shelf", shelf_options(None)), 50)
        self.assertGreater(self.check_spoilt(read_press, write_press, press, "shelf", press_options(None)), 50)
        book = Book((("red", ("rose",)), ("blue", "near", "red", tuple("abcde")), ("blue", ())))
        self.assertGreater(self.check_spoilt(read_book, write_book, book, "book", book_options), 50)

    def test_there_and_back(self):
        chance = rng(43)
        for _ in range(200):
            inks = chance.sample((SUN, SKY, ROSE, ("ash", "black", (("green", "white"), ("red", "brown")))), 3)
            shelf = Shelf(inks[:chance.randint(1, 3)])
            self.assertEqual(read_shelf(write_shelf(shelf)), shelf)
            boxes = [[chance.randint(0, 1) for _ in range(4)] for _ in range(chance.randint(0, 2))]
            names = chance.sample(shelf.names, chance.randint(1, len(shelf)))
            press = Press(shelf, [(name, chance.randint(0, len(boxes))) for name in names], boxes)
            self.assertEqual(read_press(write_press(press)), press)
            book = random_book(chance, ("white", "red", "blue"), ("sun", "sky", "rose"), 12)
            self.assertEqual(read_book(list(write_book(book))), book)


if __name__ == "__main__":
    unittest.main()
