import itertools
import unittest

from strayplates.book import Book
from strayplates.errors import BadRule, NoRule
from strayplates.picture import Picture
from strayplates.plate import Plate
from strayplates.press import Press
from strayplates.shelf import Shelf
from strayplates.words import neighbours
from tests.tools import ODD, ROSE, SKY, SUN, Checks, listed, random_book, random_picture, rng, two_press

SPREAD = (("red", ("rose",)), ("blue", "near", "red", ("rose", "sky")), ("blue", ("sky",)))


def told_number(book, page, cell):
    """The number of the rule that counts, told rule by rule."""
    around = dict(zip(("up", "left", "right", "down"), [page[other] for other in neighbours(cell)]))
    for number, rule in enumerate(book.rules):
        if rule[0] == page[cell]:
            side = rule[1] if len(rule) == 4 else None
            if side is None or around.get(side) == rule[2]:
                return number
            if side == "near" and rule[2] in around.values() or side == "hemmed" and set(around.values()) == {rule[2]}:
                return number
    return None


class BookTest(unittest.TestCase, Checks):
    def test_example(self):
        book = Book(SPREAD)
        page = Picture.of((("red", "blue", "blue"),))
        press = Press(Shelf((ROSE, SKY)), (("rose", 0), ("sky", 0)))
        job = book.made(press, page)
        self.assertEqual(job.plates, (Plate(((0, 0), (0, 1))), Plate(((0, 1), (0, 2)))))
        self.assertEqual(job.press, press)
        self.assertEqual([book.counting(page, (0, k)) for k in range(4)], [0, 1, 2, None])
        self.assertEqual([book.inks_at(page, (0, k)) for k in range(4)], [("rose",), ("rose", "sky"), ("sky",), ()])

    def test_attributes(self):
        book = Book(SPREAD)
        self.assertEqual((book.rules, book.names), (SPREAD, ("rose", "sky")))
        self.assertEqual((len(book), list(book), book[1]), (3, list(SPREAD), SPREAD[1]))
        self.assertEqual((Book().rules, Book().names), ((), ()))
        self.assertTrue(book == Book(listed(SPREAD)))
        self.assertTrue(book != Book(SPREAD[:2]))
        for thing in ODD:
            self.assertIs(book == thing, False)

    def test_no_rules(self):
        book = Book(SPREAD)
        for thing in ODD + (-1, 3, slice(0, 1)):
            if thing is not True and type(thing) is int and 0 <= thing < 3:
                continue
            self.assert_error(NoRule, {"number": thing}, lambda: book[thing])
            self.assert_error(NoRule, {"number": thing}, book.but, thing)

    def test_sum_and_but(self):
        book = Book(SPREAD)
        self.assertEqual(book.but(1).rules, (SPREAD[0], SPREAD[2]))
        self.assertEqual((book + Book(SPREAD[:1])).rules, SPREAD + SPREAD[:1])
        self.assertEqual(book.rules, SPREAD)
        six = book + book
        self.assertEqual(len(six + six), 12)
        self.assert_error(BadRule, {"number": -1}, lambda: six + six + Book(SPREAD[:1]))

    def test_lists_are_kept_as_tuples(self):
        rules = listed(SPREAD)
        book = Book(rules)
        rules[0][1][0] = "sky"
        rules.pop()
        self.assertEqual(book.rules, SPREAD)
        self.assert_tuples(book.rules)

    def test_how_many(self):
        self.assertEqual(len(Book((("red", ()),) * 12)), 12)
        for thing in (None, "", 3, (("red", ()),) * 13, {"red": ()}, (None,) * 13):
            self.assert_error(BadRule, {"number": -1}, Book, thing)

    def test_wrong_rules(self):
        inks = tuple(["ink" + letter for letter in "abcde"])
        Book((("red", inks), ("white", "up", "red", ()), ("red", "hemmed", "white", ()), ("red", "near", "red", ())))
        for rule in (None, "ab", ("red",), ("red", "up", ()), ("white", ()), ("Red", ()), (1, ()), ("red", None),
                     ("red", "sun"), ("red", ("sun", "sky")), ("red", ("sky", "sky")), ("red", (1,)),
                     ("red", inks + ("inkz",)), ("red", ("Sky",)), ("red", "near", "blue"), ("red", ("sun",), ("sun",)),
                     ("white", "up", "white", ()), ("red", "beside", "blue", ()), ("red", 1, "blue", ()),
                     ("red", ("up",), "blue", ()), ("red", "up", "Blue", ()), ("red", "up", "blue", None),
                     ("red", "up", "blue", (), ()), (("red",), ()), (True, "up", "blue", ())):
            self.assert_error(BadRule, {"number": 1}, Book, (("red", ()), rule, None))

    def test_sides(self):
        page = Picture.of((("white", "red", "white"), ("blue", "green", "gray"), ("white", "pink", "white")))
        for side, hue in (("up", "red"), ("left", "blue"), ("right", "gray"), ("down", "pink")):
            for other in ("red", "blue", "gray", "pink", "white"):
                book = Book((("green", side, other, ("sun",)),))
                self.assertEqual(book.counting(page, (1, 1)), 0 if other == hue else None)
                self.assertEqual(book.counting(page, [1, 1]), 0 if other == hue else None)
            self.assertEqual(Book((("green", "near", hue, ()),)).counting(page, (1, 1)), 0)
        self.assertIsNone(Book((("green", "near", "white", ()),)).counting(page, (1, 1)))
        self.assertIsNone(Book((("green", "hemmed", "red", ()),)).counting(page, (1, 1)))
        self.assertEqual(Book((("red", "hemmed", "white", ()),)).counting(Picture.of((("red",),)), (0, 0)), 0)

    def test_white_cells_are_printed(self):
        book = Book((("white", "left", "red", ("sun",)), ("white", "hemmed", "red", ("sky",))))
        job = book.made(two_press(), Picture.of((("red",),)))
        self.assertEqual(job.plates, (Plate(((0, 1),)), Plate()))
        hem = Picture.of((("white", "red"), ("red", "white", "red"), ("white", "red")))
        self.assertIs((1, 1) in Book((("white", "hemmed", "red", ("sky",)),)).made(two_press(), hem).plates[1], True)

    def test_inks_that_are_left_out(self):
        job = Book((("red", ("moon", "sky")),)).made(two_press(), Picture.of((("red",),)))
        self.assertEqual(job.plates, (Plate(), Plate(((0, 0),))))

    def test_against_cell_by_cell(self):
        chance = rng(3)
        press = Press(Shelf((SUN, SKY, ROSE)), (("sky", 0), ("rose", 0)))
        for _ in range(80):
            book = random_book(chance, ("white", "red", "blue"), ("sun", "sky", "rose"), 6)
            page = random_picture(chance, ("red", "blue"), 4, 4)
            job = book.made(press, page)
            for cell in itertools.product(range(-3, 7), range(-3, 7)):
                number = told_number(book, page, cell)
                self.assertEqual(book.counting(page, cell), number)
                inks = () if number is None else book[number][-1]
                self.assertEqual(book.inks_at(page, cell), inks)
                self.assertEqual([cell in plate for plate in job.plates], ["sky" in inks, "rose" in inks])


if __name__ == "__main__":
    unittest.main()
