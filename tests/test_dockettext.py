import unittest

from strayplates.dockettext import read_docket, read_picture, read_plate, write_docket, write_picture, write_plate
from strayplates.errors import BadInk, BadJob, BadLine, BadPicture, BadPlate, BadPress, BadWish, TooMany
from strayplates.job import Job
from strayplates.picture import Picture
from strayplates.plate import Plate
from tests.lines import LineChecks, integer, is_hue, is_word, one_of, spoilt_lines
from tests.test_shelftext import PRESS, press_options
from tests.tools import ODD, Checks, listed, random_picture, rng, two_press

PLACE = integer(-50, 50)
WAY = one_of("across", "down")
PLATES = ("plate", "cells 0 0 1", "end", "plate", "cells 0 1 2", "end")
PAGE = ("picture", "row 0 0 red red blue", "end")
WISH = ("wish", "claim shut across red blue 1", "claim holes", "end")
DOCKET = (*PRESS, *PLATES, *PAGE, *WISH)
CLAIMS = (("never", "red"), ("thick", "down", "white", 4), ("narrow", "across", "red", 1), ("shut", "across", "red", "blue", 3),
          ("fringe", "red", 2), ("keeps", "red"), ("true",), ("holes",), ("pieces", "blue"), ("blank", -50, 50, 1, 20))


def claim_parts(words):
    """The parts of a claim behind its kind, or None if there is no such kind."""
    return {"never": [is_hue], "thick": [WAY, is_word, integer(2, 4)], "narrow": [WAY, is_hue, integer(1, 4)],
            "shut": [WAY, is_hue, lambda word, ahead: is_hue(word) and word != ahead[3], integer(1, 3)],
            "fringe": [is_hue, integer(1, 2)], "keeps": [is_hue], "true": [], "holes": [], "pieces": [is_hue],
            "blank": [PLACE, PLACE, integer(1, 20), integer(1, 20)]}.get(words)


def picture_options(behind):
    def options(state, head):
        if state == "picture":
            return ([], None, "rows") if head == "picture" else None
        if head == "end":
            return [], None, behind
        return ([PLACE, PLACE], (is_hue, 1, 20), "rows") if head == "row" else None
    return options


def plate_options(behind):
    def options(state, head):
        if state == "plate":
            return ([], None, "cells") if head == "plate" else None
        if head == "end":
            return [], None, behind
        return ([PLACE], (PLACE, 1, 101), "cells") if head == "cells" else None
    return options


class Claims:
    """The oracle of the lines of a docket; the parts of a claim depend on its second word."""

    def __init__(self, lines):
        self.kinds = [line.split(" ")[1] for line in lines
                      if isinstance(line, str) and line.split(" ")[0] == "claim" and " " in line]

    def __call__(self, state, head):
        if state in ("shelf", "first", "inks", "press", "units", "boxes"):
            return press_options("plates")(state, head)
        if state == "plates":
            return plate_options("plates")("plate", head) if head == "plate" else picture_options("wish")("picture", head)
        if state == "cells":
            return plate_options("plates")(state, head)
        if state == "rows":
            return picture_options("wish")(state, head)
        if state == "wish":
            return ([], None, "claims") if head == "wish" else None
        if head == "end":
            return [], None, None
        if head != "claim":
            return None
        kind = self.kinds.pop(0) if self.kinds else None
        parts = claim_parts(kind)
        return [lambda word, ahead: parts is not None, *(parts or [])], None, "claims"


class PictureAndPlateTest(unittest.TestCase, Checks, LineChecks):
    own_errors = (BadPicture, BadPlate)

    def assert_bad(self, read, line, word, *lines):
        self.assert_error(BadLine, {"line": line, "word": word}, read, lines)
        self.assert_error(BadLine, {"line": line, "word": word}, read, list(lines))

    def test_pictures(self):
        picture = Picture(((-50, 50, "red"), (0, 0, "red"), (0, 1, "blue"), (0, 3, "red"), (1, 0, "red")))
        lines = ("picture", "row -50 50 red", "row 0 0 red blue", "row 0 3 red", "row 1 0 red", "end")
        self.assertEqual((write_picture(picture), read_picture(lines)), (lines, picture))
        self.assertEqual((write_picture(Picture()), read_picture(["picture", "end"])), (("picture", "end"), Picture()))
        self.assert_tuples(write_picture(picture))

    def test_long_rows(self):
        for many, parts in ((20, [20]), (21, [20, 1]), (40, [20, 20]), (41, [20, 20, 1])):
            picture = Picture([(2, k - 5, "red") for k in range(many)])
            lines = write_picture(picture)
            self.assertEqual([len(line.split(" ")) - 3 for line in lines[1:-1]], parts)
            self.assertEqual([line.split(" ")[1:3] for line in lines[1:-1]],
                             [["2", str(20 * k - 5)] for k in range(len(parts))])
            self.assertEqual(read_picture(lines), picture)

    def test_rows_in_parts(self):
        self.assertEqual(read_picture(("picture", "row 0 0 red", "row 0 1 blue red", "end")),
                         Picture(((0, 0, "red"), (0, 1, "blue"), (0, 2, "red"))))
        self.assertEqual(read_plate(("plate", "cells 0 0", "cells 0 1 2", "end")), Plate(((0, 0), (0, 1), (0, 2))))

    def test_plates(self):
        plate = Plate(((-50, -1), (0, 0), (0, 7), (0, 50), (3, -50)))
        lines = ("plate", "cells -50 -1", "cells 0 0 7 50", "cells 3 -50", "end")
        self.assertEqual((write_plate(plate), read_plate(lines)), (lines, plate))
        self.assertEqual((write_plate(Plate()), read_plate(["plate", "end"])), (("plate", "end"), Plate()))
        row = "cells 0 " + " ".join([str(k) for k in range(-50, 51)])
        self.assertEqual(read_plate(("plate", row, "end")), Plate([(0, k) for k in range(-50, 51)]))
        self.assertEqual(write_plate(Plate([(0, k) for k in range(-50, 51)])), ("plate", row, "end"))
        self.assert_bad(read_plate, 1, 103, "plate", row + " 0", "end")

    def test_what_lies_beyond_the_bounds_is_written(self):
        self.assertEqual(read_picture(("picture", "row -50 -50 red", "end")), Picture(((-50, -50, "red"),)))
        self.assert_error(BadPlate, {"number": 1}, read_plate, ("plate", "cells 0 0 -50", "end"))
        self.assertEqual(write_picture(Picture(((50, 50, "red"),)).moved(1, 1)), ("picture", "row 51 51 red", "end"))
        self.assertEqual(write_plate(Plate(((50, 50),)).moved(1, 1)), ("plate", "cells 51 51", "end"))

    def test_words_that_cannot_stand_there(self):
        for line, word in (("row", 1), ("row 0", 2), ("row 0 0", 3), ("row 0 0 white", 3), ("row 0 0 red white", 4),
                           ("row 51 0 red", 1), ("row 0 -51 red", 2), ("row 0 0 red Red", 4), ("row 0 0 red ", 4),
                           ("row 0 0 red" + " red" * 20, 23), ("row 0 0 red" + " red" * 19 + " 0", 3 + 20), ("cells 0 0", 0),
                           ("picture", 0), ("end end", 1), ("", 0), (None, 0)):
            self.assert_bad(read_picture, 1, word, "picture", line, "end")
        for line, word in (("cells", 1), ("cells 0", 2), ("cells 51 0", 1), ("cells 0 51", 2), ("cells 0 0 -51", 3),
                           ("cells 0 0 -0", 3), ("cells 0 0 01", 3), ("cells 0  0", 2), ("row 0 0 red", 0), (3, 0)):
            self.assert_bad(read_plate, 1, word, "plate", line, "end")
        for read, head in ((read_picture, "picture"), (read_plate, "plate")):
            self.assert_bad(read, 0, 0)
            self.assert_bad(read, 1, 0, head)
            self.assert_bad(read, 2, 0, head, "end", head)
            self.assert_bad(read, 0, 1, head + " ", "end")
            self.assert_bad(read, 0, 0, "press", "end")

    def test_errors_of_the_objects(self):
        self.assert_error(BadPicture, {"number": 1}, read_picture, ("picture", "row 0 50 red red", "end"))
        self.assert_error(BadPicture, {"number": 2}, read_picture, ("picture", "row 0 0 red red", "row 0 1 red", "end"))
        self.assert_error(BadPicture, {"number": 1}, read_picture, ("picture", "row 1 0 red", "row 0 0 red", "end"))
        full = ["row %d 0%s" % (k, " red" * 20) for k in range(10)]
        self.assertEqual(len(read_picture(("picture", *full, "end"))), 200)
        self.assert_error(BadPicture, {"number": -1}, read_picture, ("picture", *full, "row 0 0 red", "end"))
        self.assert_error(BadPlate, {"number": 2}, read_plate, ("plate", "cells 0 1 2 2", "end"))
        self.assert_error(BadPlate, {"number": 1}, read_plate, ("plate", "cells 0 1", "cells -1 2", "end"))
        self.assert_bad(read_plate, 3, 0, "plate", "cells 0 1", "cells -1 2", "stop")
        self.assert_bad(read_picture, 3, 0, "picture", "row 0 50 red red", "end", "")

    def test_many_spoilt_lines(self):
        picture = Picture(((0, 0, "red"), (0, 1, "blue"), (2, 3, "red")))
        plate = Plate(((0, 0), (0, 4), (0, 5), (2, 3)))
        self.assertGreater(self.check_spoilt(read_picture, write_picture, picture, "picture", picture_options(None)), 50)
        self.assertGreater(self.check_spoilt(read_plate, write_plate, plate, "plate", plate_options(None)), 50)

    def test_there_and_back(self):
        chance = rng(47)
        for _ in range(200):
            picture = random_picture(chance, ("red", "blue"), 4, 25, chance.random()).moved(
                chance.randint(-9, 9), chance.randint(-9, 9))
            plate = Plate([(row, column) for row, column, _ in picture])
            self.assertEqual(read_picture(write_picture(picture)), picture)
            self.assertEqual(read_plate(list(write_plate(plate))), plate)


class DocketTest(unittest.TestCase, Checks, LineChecks):
    own_errors = (BadInk, BadPress, BadPlate, BadPicture, BadJob, BadWish, TooMany)

    def setUp(self):
        self.job = Job(two_press(), (Plate(((0, 0), (0, 1))), Plate(((0, 1), (0, 2)))))
        self.page = Picture(((0, 0, "red"), (0, 1, "red"), (0, 2, "blue")))
        self.wish = (("shut", "across", "red", "blue", 1), ("holes",))

    def assert_bad(self, line, word, *lines):
        self.assert_error(BadLine, {"line": line, "word": word}, read_docket, lines)

    def test_a_docket(self):
        lines = write_docket(self.job, self.page, self.wish)
        self.assertEqual(lines, DOCKET)
        self.assert_tuples(lines)
        told = read_docket(listed(lines))
        self.assertIsInstance(told, tuple)
        self.assertEqual(told, (self.job, self.page, self.wish))

    def test_each_claim(self):
        for claim in CLAIMS:
            lines = write_docket(self.job, self.page, [listed(claim)])
            self.assertEqual(lines[-2], "claim " + " ".join([str(part) for part in claim]))
            self.assertEqual(read_docket(lines)[2], (claim,))

    def test_wrong_wishes_are_not_written(self):
        for thing in (None, 3, "abc", (), CLAIMS[:7], {}, (None,) * 7):
            self.assert_error(BadWish, {"number": -1}, write_docket, self.job, self.page, thing)
        for thing in ODD + (("never", "white"), ("shut", "across", "red", "red", 1)):
            self.assert_error(BadWish, {"number": 1}, write_docket, self.job, self.page, (("true",), thing, None))

    def test_words_of_claims_that_cannot_stand_there(self):
        for line, word in (("claim", 1), ("claim always", 1), ("claim never", 2), ("claim never white", 2),
                           ("claim never red red", 3), ("claim thick", 2), ("claim thick up red 2", 2),
                           ("claim thick down Red 2", 3), ("claim thick down red 1", 4), ("claim thick down red 5", 4),
                           ("claim narrow across white 1", 3), ("claim narrow across red 0", 4),
                           ("claim narrow across red 5", 4), ("claim shut across red red 1", 4),
                           ("claim shut across red white 1", 4), ("claim shut across white red 1", 3),
                           ("claim shut across red blue 4", 5), ("claim shut across red blue", 5),
                           ("claim fringe red 3", 3), ("claim fringe white 1", 2), ("claim keeps", 2), ("claim true red", 2),
                           ("claim holes ", 2), ("claim  holes", 1), ("claim pieces white", 2), ("claim blank -51 0 1 1", 2),
                           ("claim blank 0 51 1 1", 3), ("claim blank 0 0 0 1", 4), ("claim blank 0 0 1 21", 5),
                           ("claim blank 0 0 1 1 1", 6), ("wish", 0), ("end end", 1), ("holes", 0), ("", 0), (None, 0)):
            self.assert_bad(len(DOCKET) - 2, word, *DOCKET[:-2], line, *DOCKET[-2:])

    def test_the_order_of_the_parts(self):
        at = len(PRESS)
        self.assert_bad(at + 6, 0, *PRESS, *PLATES, *WISH)
        self.assert_bad(at + 9, 0, *PRESS, *PLATES, *PAGE, *PLATES)
        self.assert_bad(at, 0, *PRESS, *WISH)
        self.assert_bad(at, 1, *PRESS, "plate ", *PLATES[1:])
        self.assert_bad(at, 0, *PRESS, "plates", *PLATES[1:])
        self.assert_bad(at, 0, *PRESS)
        self.assert_bad(at, 0, *PRESS, None)
        self.assert_bad(at + 6, 0, *PRESS, *PLATES)
        self.assert_bad(at + 9, 0, *PRESS, *PLATES, *PAGE)
        self.assert_bad(at + 12, 0, *DOCKET[:-1])
        self.assert_bad(at + 13, 0, *DOCKET, "end")

    def test_the_order_of_errors(self):
        """Each part is spoilt; the first object that is wrong is told, and a bad word ahead of all."""
        shelf = ("shelf", "end")
        press = (*PRESS[:5], "press", "end")
        plate = ("plate", "cells 0 1 1", "end")
        page = ("picture", "row 0 0 red", "row 0 0 red", "end")
        wish = ("wish", "end")
        self.assert_bad(13, 0, *shelf, *press[5:], *plate, *page, *wish, "stop")
        self.assert_error(BadInk, {"number": -1}, read_docket, (*shelf, *press[5:], *plate, *page, *wish))
        self.assert_error(BadPress, {"word": "units"}, read_docket, (*press, *plate, *page, *wish))
        self.assert_error(BadPlate, {"number": 1}, read_docket, (*PRESS, *PLATES[:3], *plate, *page, *wish))
        self.assert_error(BadPicture, {"number": 1}, read_docket, (*PRESS, *PLATES[:3], *page, *wish))
        self.assert_error(BadJob, {"number": -1}, read_docket, (*PRESS, *PLATES[:3], *PAGE, *wish))
        self.assert_error(BadJob, {"number": -1}, read_docket, (*PRESS, *PAGE, *wish))
        self.assert_error(BadJob, {"number": -1}, read_docket, (*PRESS, *PLATES, *PLATES, *PAGE, *wish))
        self.assert_error(BadWish, {"number": -1}, read_docket, (*PRESS, *PLATES, *PAGE, *wish))
        claims = ["claim true"] * 6
        self.assertEqual(len(read_docket((*PRESS, *PLATES, *PAGE, "wish", *claims, "end"))[2]), 6)
        self.assert_error(BadWish, {"number": -1}, read_docket,
                          (*PRESS, *PLATES, *PAGE, "wish", *claims, "claim true", "end"))

    def test_many_spoilt_lines(self):
        for wish in (self.wish, CLAIMS[:2] + CLAIMS[4:5], CLAIMS[2:3] + CLAIMS[8:]):
            lines = write_docket(self.job, self.page, wish)
            many = 0
            for spoilt in self.spoilt(lines):
                if self.check_lines(read_docket, spoilt, "shelf", Claims(spoilt)):
                    many += 1
                    self.check_read(read_docket, write_docket, spoilt)
            self.assertGreater(many, 50)

    def spoilt(self, lines):
        # The lines of the press and of the plates are spoilt elsewhere; here a part of the words will do.
        return spoilt_lines(lines, ("", "red", "white", "5", "0", "-0", "end", "plate", "claim", "up"))

    def test_there_and_back(self):
        chance = rng(53)
        for _ in range(60):
            page = random_picture(chance, ("red", "blue"), 3, 3)
            cells = [(row, column) for row, column, _ in random_picture(chance, ("red",), 3, 3)]
            job = Job(two_press(((1, 0, 2, 3),)), (Plate(cells), Plate()))
            wish = tuple(chance.sample(CLAIMS, chance.randint(1, 6)))
            self.assertEqual(read_docket(write_docket(job, page, wish)), (job, page, wish))


if __name__ == "__main__":
    unittest.main()
