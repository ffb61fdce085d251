import unittest

from strayplates.errors import BadInk, NoInk, TooMany
from strayplates.shelf import Shelf
from tests.tools import ODD, ROSE, SKY, SUN, Checks, listed


class ShelfTest(unittest.TestCase, Checks):
    def test_example(self):
        shelf = Shelf((SUN, SKY))
        self.assertEqual(shelf.stack(("sun", "sky")), "green")
        self.assertEqual(shelf.stack(("sky", "sun")), "yellow")
        self.assertEqual(shelf.stack(()), "white")
        self.assertEqual(shelf.stack(["sky", "sky", "sun", "sky"]), "green")

    def test_attributes(self):
        shelf = Shelf((SUN, SKY, ROSE))
        self.assertEqual(shelf.inks, (SUN, SKY, ROSE))
        self.assertEqual(shelf.names, ("sun", "sky", "rose"))
        self.assertEqual(shelf.hues, ("white", "blue", "green", "orange", "red", "yellow"))
        self.assertEqual(shelf["sky"], SKY)
        self.assertEqual((len(shelf), list(shelf)), (3, [SUN, SKY, ROSE]))

    def test_hues_of_unders_and_white_results(self):
        shelf = Shelf((("wash", "black", (("mud", "white"), ("sand", "tan"))),))
        self.assertEqual(shelf.hues, ("white", "black", "mud", "sand", "tan"))
        self.assertEqual(shelf.laid("mud", "wash"), "white")

    def test_laid(self):
        shelf = Shelf((SUN, SKY))
        self.assertEqual(shelf.laid("yellow", "sky"), "green")
        for colour in ("white", "blue", "green", "unknown"):
            self.assertEqual(shelf.laid(colour, "sky"), "blue")

    def test_names_that_are_none(self):
        shelf = Shelf((SUN, SKY))
        for thing in ODD:
            self.assertIs(thing in shelf, False)
            self.assert_error(NoInk, {"name": thing}, shelf.laid, "white", thing)
            self.assert_error(NoInk, {"name": thing}, lambda: shelf[thing])
        self.assertIs("sun" in shelf, True)
        self.assert_error(NoInk, {"name": ["moon"]}, shelf.stack, ["sun", ["moon"], "star"])

    def test_lists_are_kept_as_tuples(self):
        inks = listed((SUN, SKY))
        shelf = Shelf(inks)
        inks[1][2][0][1] = "black"
        inks.pop()
        self.assertEqual(shelf.inks, (SUN, SKY))
        self.assert_tuples(shelf.inks)
        self.assertEqual(shelf.stack(("sun", "sky")), "green")

    def test_equal(self):
        self.assertTrue(Shelf((SUN, SKY)) == Shelf(listed((SUN, SKY))))
        self.assertTrue(Shelf((SUN, SKY)) != Shelf((SKY, SUN)))
        for thing in ODD:
            self.assertIs(Shelf((SUN,)) == thing, False)
        self.assertIs(Shelf((SUN,)) == (SUN,), False)

    def test_how_many_inks(self):
        inks = tuple([(name, name, ()) for name in "abcdef"])
        self.assertEqual(len(Shelf(inks[:5])), 5)
        self.assertEqual(len(Shelf(inks[:1])), 1)
        for thing in (inks, (), None, "abc", {"a": 1}, 3, True):
            self.assert_error(BadInk, {"number": -1}, Shelf, thing)
        self.assert_error(BadInk, {"number": -1}, Shelf, inks[:5] + (None,))

    def test_wrong_inks(self):
        many = tuple([("u" + letter, "r") for letter in "abcdefghijklm"])
        for ink in (None, "sky", (), ("sky", "blue"), ("sky", "blue", (), ()), ("Sky", "blue", ()), (1, "blue", ()),
                    ("sky", "white", ()), ("sky", "Blue", ()), ("sky", "blue", None), ("sky", "blue", "ab"),
                    ("sky", "blue", (("yellow",),)), ("sky", "blue", (("white", "green"),)),
                    ("sky", "blue", (("b", "x"), ("a", "y"))), ("sky", "blue", (("a", "x"), ("a", "y"))),
                    ("sky", "blue", (("a", True),)), ("sky", "blue", (("a", "b", "c"),)), ("sky", "blue", ((1, "a"),)), ("sky", "blue", ("ab",)),
                    ("sky", "blue", many), SUN):
            self.assert_error(BadInk, {"number": 1}, Shelf, (SUN, ink, None))
        self.assertEqual(Shelf((("white", "blue", ()),)).names, ("white",))

    def test_most_pairs_and_colours(self):
        many = tuple([("u" + letter, "r") for letter in "abcdefghijkl"])
        self.assert_error(TooMany, {"word": "colour"}, Shelf, (("sky", "blue", many),))
        two = tuple([(letter, letter) for letter in "abcdefghijk"])
        self.assertEqual(len(Shelf((("sky", "a", two),)).hues), 12)
        same = tuple([(letter, "white") for letter in "abcdefghijk"])
        self.assertEqual(len(Shelf((("sky", "a", same),)).hues), 12)
        self.assert_error(TooMany, {"word": "colour"}, Shelf, (("sky", "z", two),))
        # Twelve pairs are allowed, but bring too many colours; a wrong ink goes ahead of that.
        self.assert_error(BadInk, {"number": 1}, Shelf, (("sky", "blue", many), ("sky", "blue", ())))


if __name__ == "__main__":
    unittest.main()
