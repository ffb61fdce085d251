import itertools
import unittest

from strayplates.asking import read_told, want_told
from strayplates.book import Book
from strayplates.claims import holds
from strayplates.errors import BadClaim, BadPalette, NoLie
from strayplates.forms import forms, met
from strayplates.picture import Picture
from strayplates.press import Press
from strayplates.shelf import Shelf
from strayplates.words import neighbours
from tests.tools import ODD, ROSE, SKY, SUN, Checks, listed, random_book, random_picture, rng, two_press

PALETTE = ("blue", "red")


class FormsTest(unittest.TestCase, Checks):
    def test_never_and_keeps_and_true(self):
        self.assertEqual(forms(("never", "red"), PALETTE), ((("shows", (0, 0), "red"),),))
        self.assertEqual(forms(("keeps", "red"), PALETTE), ((
            ("was", (-1, 0), "red"), ("was", (0, -1), "red"), ("was", (0, 0), "red"), ("was", (0, 1), "red"),
            ("was", (1, 0), "red"), ("lacks", (0, 0), "red")),))
        self.assertEqual(forms(("true",), PALETTE), tuple([
            (("was", (0, 0), hue), ("lacks", (0, 0), hue)) for hue in ("white", "blue", "red")]))
        self.assertEqual(len(forms(("true",), ("blue",))), 2)

    def test_thick(self):
        self.assertEqual(forms(("thick", "across", "red", 3), PALETTE), (
            (("lacks", (0, 0), "red"), ("shows", (0, 1), "red"), ("lacks", (0, 2), "red")),
            (("lacks", (0, 0), "red"), ("shows", (0, 1), "red"), ("shows", (0, 2), "red"), ("lacks", (0, 3), "red"))))
        self.assertEqual(forms(("thick", "down", "white", 2), PALETTE), (
            (("lacks", (0, 0), "white"), ("shows", (1, 0), "white"), ("lacks", (2, 0), "white")),))
        self.assertEqual(len(forms(("thick", "down", "white", 4), PALETTE)), 3)

    def test_narrow(self):
        self.assertEqual(forms(("narrow", "down", "red", 1), PALETTE), (
            (("shows", (0, 0), "red"), ("shows", (1, 0), "red")),))
        self.assertEqual(forms(("narrow", "across", "red", 4), PALETTE), (
            tuple([("shows", (0, k), "red") for k in range(5)]),))

    def test_shut(self):
        told = forms(("shut", "across", "red", "blue", 2), PALETTE)
        expected = []
        for m, i in ((1, 1), (2, 1), (2, 2)):
            for one, other in (("red", "blue"), ("blue", "red")):
                whites = [("shows", (0, k), "white") for k in range(1, m + 1)]
                expected.append((("inked", (0, i)), ("shows", (0, 0), one), *whites, ("shows", (0, m + 1), other)))
        self.assertEqual(told, tuple(expected))
        self.assertEqual(forms(("shut", "down", "red", "blue", 1), PALETTE)[1], (
            ("inked", (1, 0)), ("shows", (0, 0), "blue"), ("shows", (1, 0), "white"), ("shows", (2, 0), "red")))
        self.assertEqual(len(forms(("shut", "across", "red", "blue", 3), PALETTE)), 12)

    def test_fringe(self):
        self.assertEqual(forms(("fringe", "red", 1), PALETTE), tuple([
            tuple([("shows", cell, "red") for cell in cells]) for cells in (
                ((0, 0), (0, 1), (1, 0)), ((-1, 0), (0, 0), (0, 1)),
                ((0, -1), (0, 0), (1, 0)), ((-1, 0), (0, -1), (0, 0)))]))
        told = forms(("fringe", "red", 2), PALETTE)
        self.assertEqual(len(told), 9)
        self.assertEqual([cell for _, cell, _ in told[5]], [(-2, 0), (-1, 0), (0, -1), (0, 0), (0, 1)])

    def test_errors(self):
        for thing in ODD + (("holes",), ("pieces", "red"), ("blank", 0, 0, 1, 1), ["thick", "across", "red", 9]):
            self.assert_error(BadClaim, {"claim": thing}, forms, thing, None)
        for thing in (None, (), ("red", "blue"), ["white"], "red", ("a", "b", "c", "d")):
            self.assert_error(BadPalette, {"colours": thing}, forms, ("true",), thing)
        self.assertEqual(forms(["never", "red"], ["blue"]), forms(("never", "red"), ("blue",)))
        self.assert_tuples(forms(["shut", "down", "red", "blue", 3], ["blue"]))

    def test_met(self):
        page, picture = Picture.of((("red", "blue"),)), Picture.of((("white", "blue", "green"),))
        for want, expected in ((("shows", (0, 1), "blue"), True), (("shows", (0, 0), "red"), False),
                               (("shows", (0, 0), "white"), True), (("lacks", (0, 0), "red"), True),
                               (("lacks", (0, 0), "white"), False), (("was", (0, 0), "red"), True),
                               (("was", (0, 2), "white"), True), (("was", (0, 2), "green"), False),
                               (("inked", (0, 0)), True), (("inked", (0, 2)), False)):
            self.assertIs(met((want,), page, picture), expected)
            self.assertIs(met([listed(want)], page, picture), expected)
            self.assertIs(met((want,), page.moved(3, -5), picture.moved(3, -5), rows=3, columns=-5), expected)
        self.assertIs(met((), page, picture), True)
        self.assertIs(met((("inked", (0, 0)), ("inked", (0, 2))), page, picture), False)

    def test_forms_tell_when_a_claim_is_broken(self):
        chance = rng(5)
        claims = [("never", "red"), ("keeps", "red"), ("true",), ("fringe", "red", 1), ("fringe", "red", 2)]
        for way in ("across", "down"):
            claims += [("thick", way, hue, n) for hue in ("red", "white") for n in (2, 3, 4)]
            claims += [("narrow", way, "red", n) for n in (1, 2, 3, 4)]
            claims += [("shut", way, "red", "blue", n) for n in (1, 2, 3)]
        for _ in range(12):
            page = random_picture(chance, PALETTE, 4, 5, chance.random())
            picture = random_picture(chance, PALETTE, 4, 5, chance.random())
            for claim in claims:
                found = any(met(form, page, picture, rows=row, columns=column) for form in forms(claim, PALETTE)
                            for row, column in itertools.product(range(-6, 8), range(-6, 9)))
                self.assertIs(found, not holds(claim, page, picture), claim)


class AskingTest(unittest.TestCase, Checks):
    def test_reading(self):
        book = Book((("red", "near", "blue", ("sun",)), ("red", "hemmed", "white", ("sky",)), ("blue", ("rose",)),
                     ("red", "left", "red", ("moon",))))
        for told, answer in (
                ((), ("needs", (0, 0))),
                (((0, 0, "white"),), ("prints", ())),
                (((0, 0, "blue"),), ("prints", ("rose",))),
                (((0, 0, "red"),), ("needs", (-1, 0))),
                (((0, 0, "red"), (0, 1, "blue")), ("needs", (-1, 0))),
                (((-1, 0, "blue"), (0, 0, "red")), ("prints", ("sun",))),
                (((-1, 0, "white"), (0, 0, "red")), ("needs", (0, -1))),
                (((-1, 0, "white"), (0, -1, "white"), (0, 0, "red"), (0, 1, "white")), ("needs", (1, 0))),
                (((-1, 0, "white"), (0, -1, "white"), (0, 0, "red"), (0, 1, "white"), (1, 0, "white")),
                 ("prints", ("sky",))),
                (((-1, 0, "white"), (0, -1, "red"), (0, 0, "red"), (0, 1, "white"), (1, 0, "white")),
                 ("prints", ("moon",))),
                (((-1, 0, "white"), (0, -1, "white"), (0, 0, "red"), (0, 1, "white"), (1, 0, "red")),
                 ("prints", ()))):
            self.assertEqual(read_told(book, told, (0, 0)), answer)
            self.assertEqual(read_told(book, listed(told), [0, 0]), answer)
            self.assert_tuples(read_told(book, listed(told), [0, 0]))

    def test_hemmed_is_looked_at_up_to_another_colour(self):
        book = Book((("red", "hemmed", "blue", ("sun",)), ("red", "down", "blue", ("sky",))))
        self.assertEqual(read_told(book, ((-1, 0, "white"), (0, 0, "red")), (0, 0)), ("needs", (1, 0)))
        self.assertEqual(read_told(book, ((0, 0, "red"), (1, 0, "white")), (0, 0)), ("needs", (-1, 0)))

    def test_reading_asks_up_to_what_a_page_tells(self):
        chance = rng(8)
        for _ in range(300):
            book = random_book(chance, ("white", "red", "blue"), ("sun", "sky"), 5)
            page = random_picture(chance, PALETTE, 3, 3)
            told = {}
            while True:
                answer = read_told(book, sorted([(*cell, hue) for cell, hue in told.items()]), (1, 1))
                if answer[0] == "prints":
                    break
                self.assertIn(answer[1], ((1, 1), *neighbours((1, 1))))
                self.assertNotIn(answer[1], told)
                told[answer[1]] = page[answer[1]]
            self.assertEqual(answer[1], book.inks_at(page, (1, 1)))

    def test_wants_of_the_page(self):
        press, book = two_press(), Book((("red", ("sun",)),))
        lie = ((0, 0),)
        told = ((0, 0, "red"), (0, 1, "white"))
        for want, answer in ((("was", (0, 0), "red"), ("met",)), (("was", (0, 1), "white"), ("met",)),
                             (("was", (0, 0), "blue"), ("unmet",)), (("was", (5, 5), "red"), ("needs", (5, 5))),
                             (("inked", (0, 0)), ("met",)), (("inked", (0, 1)), ("unmet",)),
                             (("inked", (2, 2)), ("needs", (2, 2))), (("shows", (0, 0), "yellow"), ("met",)),
                             (("lacks", (0, 0), "yellow"), ("unmet",)), (("shows", (0, 1), "white"), ("met",)),
                             (("lacks", (0, 1), "blue"), ("met",)), (("shows", (2, 2), "blue"), ("needs", (2, 2)))):
            self.assertEqual(want_told(press, book, lie, told, want), answer)
            self.assertEqual(want_told(press, book, listed(lie), listed(told), listed(want)), answer)

    def test_wants_read_under_the_plates(self):
        press, book = two_press(), Book((("red", ("sun",)), ("blue", ("sky",))))
        lie = ((0, 1),)
        want = ("shows", (0, 0), "green")
        self.assertEqual(want_told(press, book, lie, (), want), ("needs", (0, 0)))
        self.assertEqual(want_told(press, book, lie, ((0, -1, "blue"),), want), ("needs", (0, 0)))
        self.assertEqual(want_told(press, book, lie, ((0, 0, "red"),), want), ("needs", (0, -1)))
        self.assertEqual(want_told(press, book, lie, ((0, -1, "blue"), (0, 0, "red")), want), ("met",))
        self.assertEqual(want_told(press, book, lie, ((0, -1, "red"), (0, 0, "red")), want), ("unmet",))

    def test_no_lies(self):
        for thing in (None, (), ((0, 2),), ((0, True),), 0, "a"):
            self.assert_error(NoLie, {"lie": thing}, want_told, two_press(), Book(), thing, (), ("inked", (0, 0)))

    def test_wants_against_whole_pages(self):
        chance = rng(9)
        press = Press(Shelf((SUN, SKY, ROSE)), (("sun", 0), ("sky", 1), ("rose", 2)), ((1, 0, 0, 1), (0, 1, 0, 0)))
        for _ in range(150):
            book = random_book(chance, ("white", "red", "blue"), ("rose", "sky", "sun"), 4)
            page = random_picture(chance, PALETTE, 4, 4)
            lie = chance.choice(press.lies)
            picture = book.made(press, page).shown(lie)
            kind = chance.choice(("shows", "lacks", "was", "inked"))
            want = (kind, (1, 2), chance.choice(("white", "yellow", "blue", "green", "red")))[:2 if kind == "inked" else 3]
            told = {}
            answer = want_told(press, book, lie, (), want)
            while answer[0] == "needs":
                self.assertNotIn(answer[1], told)
                told[answer[1]] = page[answer[1]]
                answer = want_told(press, book, lie, sorted([(*cell, hue) for cell, hue in told.items()]), want)
            self.assertEqual(answer, ("met",) if met((want,), page, picture) else ("unmet",))


if __name__ == "__main__":
    unittest.main()
