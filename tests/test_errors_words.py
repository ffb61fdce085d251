import unittest

from strayplates import errors
from strayplates.errors import BadPalette, PlateError
from strayplates.words import SIDES, WAYS, WHITE, is_cell, is_palette, is_word, judged_palette, neighbours
from tests.tools import ODD, Checks

ERRORS = """BadInk(number) BadPicture(number) BadPlate(number) BadPress(word) BadJob(number) BadClaim(claim)
BadWish(number) BadRule(number) BadLine(line,word) BadStamp(number) BadDeed(number) BadOrder(order)
BadColours(number) BadMenu(number) BadTrap(trap) BadLooks(number) BadAims(aims) BadPalette(colours) BadBars(number)
BadMost(most) BadChange(number) BadPatch(number) BadPace(pace) BadTape(number) BadLies(number) BadPlan(word)
BadDesign(number) BadHand(number) BadTurns(number) BadRun(number) BadLot(lot) BadPulls(number) BadKept(number)
BadLayout(number) NoColour(colour) NoInk(name) NoLie(lie) NoUnit(number) NoRule(number) NoCell(cell) NoStep(many)
NoLot(number) NoPart(number) NoCopy(number) Clash(name) Unlike(word) TooMany(word)"""


class ErrorsTest(unittest.TestCase):
    def test_classes(self):
        self.assertEqual(PlateError.__bases__, (ValueError,))
        for told in ERRORS.split():
            name, words = told[:-1].split("(")
            kind = getattr(errors, name)
            self.assertEqual(kind.__bases__, (PlateError,), name)
            words = words.split(",")
            thing = ["as", "passed"]
            made = kind(*[thing for _ in words])
            for word in words:
                self.assertIs(getattr(made, word), thing)
            self.assertEqual(vars(kind(**{word: 7 for word in words})), {word: 7 for word in words})
            with self.assertRaises(TypeError):
                kind(*words, 1)

    def test_no_other_classes(self):
        named = {told.split("(")[0] for told in ERRORS.split()} | {"PlateError"}
        self.assertEqual({name for name in vars(errors) if not name.startswith("_")}, named)


class WordsTest(unittest.TestCase, Checks):
    def test_values(self):
        self.assertEqual(WHITE, "white")
        self.assertEqual(WAYS, ("across", "down"))
        self.assertEqual(SIDES, ("up", "left", "right", "down", "near", "hemmed"))

    def test_words(self):
        for word in ("a", "z", "abcdefgh", "white", "qrstuvwx", "yz"):
            self.assertIs(is_word(word), True)
        for thing in ("abcdefghi", "Red", "a b", "a-b", "a1", "\u00e9", "a\n", " a", "a" * 500):
            self.assertIs(is_word(thing), False)
        for thing in ODD:
            self.assertIs(is_word(thing), isinstance(thing, str) and thing == "red")

    def test_cells(self):
        for cell in ((0, 0), (-7, 10 ** 40 - 1), [3, 4]):
            self.assertIs(is_cell(cell), True)
        for thing in ((0, True), (False, 0), (1,), (1, 2, 3), (1, "2"), (1.0, 2), "ab", ((1, 2), 3), {1, 2}):
            self.assertIs(is_cell(thing), False)
        for thing in ODD:
            self.assertIs(is_cell(thing), thing in ((1, 2), [0, 0]) if isinstance(thing, (tuple, list)) else False)

    def test_palettes(self):
        for thing in (("blue",), ("blue", "red"), ["blue", "green", "red"], ("a", "aa")):
            self.assertIs(is_palette(thing), True)
        for thing in (("red", "blue"), ("blue", "blue"), ("white",), ("blue", "white"), ("a", "b", "c", "d"), (),
                      ("Red",), (1,), (("a",),), "abc", {"a": 1}, {"a"}):
            self.assertIs(is_palette(thing), False)
        for thing in ODD:
            self.assertIs(is_palette(thing), thing == ("red",) if isinstance(thing, tuple) else False)

    def test_judged_palette(self):
        self.assertEqual(judged_palette(["blue", "red"]), ("blue", "red"))
        self.assert_error(BadPalette, {"colours": ["red", "blue"]}, judged_palette, ["red", "blue"])

    def test_neighbours(self):
        self.assertEqual(neighbours((5, -3)), ((4, -3), (5, -4), (5, -2), (6, -3)))
        self.assertEqual(neighbours([0, 0]), ((-1, 0), (0, -1), (0, 1), (1, 0)))


if __name__ == "__main__":
    unittest.main()
