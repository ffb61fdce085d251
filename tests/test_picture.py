import itertools
import unittest

from strayplates.errors import BadPicture, NoColour
from strayplates.picture import Picture, holes, pieces, runs
from tests.tools import ODD, Checks, random_picture, rng


def told_holes(picture):
    """By filling the box around the picture with white, cell by cell, from its corner."""
    if picture.box is None:
        return ()
    top, left, height, width = picture.box
    cells = set(itertools.product(range(top - 1, top + height + 1), range(left - 1, left + width + 1)))
    white = {cell for cell in cells if picture[cell] == "white"}
    found = []
    while white:
        first = min(white)
        group, waiting = set(), [first]
        while waiting:
            row, column = here = waiting.pop()
            if here in white:
                white.remove(here)
                group.add(here)
                waiting += [(row - 1, column), (row + 1, column), (row, column - 1), (row, column + 1)]
        if (top - 1, left - 1) not in group:
            found.append(tuple(sorted(group)))
    return tuple(sorted(found))


def told_runs(picture, way, colour):
    step = (0, 1) if way == "across" else (1, 0)
    found = []
    for row, column, hue in picture.cells:
        if hue == colour and picture[(row - step[0], column - step[1])] != colour:
            length = 1
            while picture[(row + step[0] * length, column + step[1] * length)] == colour:
                length += 1
            found.append((row, column, length))
    return tuple(sorted(found))


class PictureTest(unittest.TestCase, Checks):
    def test_cells(self):
        picture = Picture(((0, 1, "red"), (1, -2, "blue")))
        self.assertEqual(picture.cells, ((0, 1, "red"), (1, -2, "blue")))
        self.assertEqual((picture[(0, 1)], picture[[1, -2]], picture[(5, 5)]), ("red", "blue", "white"))
        self.assertEqual((len(picture), list(picture)), (2, [(0, 1, "red"), (1, -2, "blue")]))
        self.assertIs((0, 1) in picture, True)
        self.assertIs([1, -2] in picture, True)
        self.assertIs((0, 0) in picture, False)
        self.assertEqual((picture.hues, picture.box), (("blue", "red"), (0, -2, 2, 4)))
        self.assertEqual(picture.moved(7, 9).box, (7, 7, 2, 4))
        self.assertEqual(Picture(tuple([(0, k, hue) for k, hue in enumerate("gfedcba")])).hues, tuple("abcdefg"))

    def test_empty(self):
        self.assertEqual((Picture().cells, Picture().hues, Picture().box), ((), (), None))
        self.assertEqual((holes(Picture()), pieces(Picture(), "red"), runs(Picture(), "down", "red")), ((), (), ()))

    def test_whatever_is_asked(self):
        picture = Picture(((0, 0, "red"), (0, 1, "red"), (1, 0, "red"), (1, 2, "red")))
        for thing in ODD + ((True, False), (1.0, 2.0), (0, 0, "red"), "ab"):
            known = isinstance(thing, (tuple, list)) and tuple(thing) in ((0, 0), (1, 2)) and type(thing[0]) is int
            self.assertIs(thing in picture, known)

    def test_bounds(self):
        Picture(((-50, -50, "red"), (50, 50, "red")))
        for cell in ((-51, 0), (51, 0), (0, -51), (0, 51), (True, 0), (0, False), ("0", 0)):
            self.assert_error(BadPicture, {"number": 0}, Picture, ((*cell, "red"),))
        for triple in ((0, 0, "white"), (0, 0, "Red"), (0, 0, 1), (0, 0), (0, 0, "red", 1), None, "abc"):
            self.assert_error(BadPicture, {"number": 1}, Picture, ((-1, 0, "red"), triple, None))
        for cells in (((0, 1, "red"), (0, 0, "blue")), ((0, 1, "blue"), (0, 1, "red"))):
            self.assert_error(BadPicture, {"number": 1}, Picture, cells)

    def test_how_many(self):
        cells = tuple([(row, column, "red") for row in range(4) for column in range(51)][:201])
        self.assertEqual(len(Picture(cells[:200])), 200)
        for thing in (cells, None, "", 1, {}, {(0, 0, "red")}, (None,) * 201):
            self.assert_error(BadPicture, {"number": -1}, Picture, thing)

    def test_lists_are_kept_as_tuples(self):
        cells = [[0, 1, "red"]]
        picture = Picture(cells)
        cells[0][2] = "blue"
        cells.append([0, 2, "red"])
        self.assertEqual((picture.cells, picture[(0, 1)]), (((0, 1, "red"),), "red"))
        self.assert_tuples(picture.cells)

    def test_equal(self):
        self.assertTrue(Picture([[0, 1, "red"]]) == Picture(((0, 1, "red"),)))
        self.assertTrue(Picture() != Picture(((0, 1, "red"),)))
        for thing in (None, (), (("x",),), 3):
            self.assertIs(Picture() == thing, False)

    def test_moved_and_turned(self):
        picture = Picture(((0, 0, "red"), (0, 2, "blue"), (1, 0, "green")))
        self.assertEqual(picture.moved(60, -3).cells, ((60, -3, "red"), (60, -1, "blue"), (61, -3, "green")))
        self.assertEqual(picture.turned(2, 3).cells, ((0, 2, "green"), (1, 0, "blue"), (1, 2, "red")))
        self.assertEqual(picture.moved(60, -3)[(60, -1)], "blue")
        self.assertEqual(picture.turned(2, 3).turned(2, 3), picture)
        self.assertEqual(picture.cells[0], (0, 0, "red"))

    def test_of(self):
        picture = Picture.of((("red", "white", "blue"), (), ("white", "red")), top=-1, left=49)
        self.assertEqual(picture.cells, ((-1, 49, "red"), (-1, 51, "blue"), (1, 50, "red")))
        self.assertEqual(Picture.of(()), Picture())
        self.assertEqual(Picture.of([["red"]]), Picture(((0, 0, "red"),)))
        self.assertEqual(len(Picture.of((("red",) * 201,))), 201)

    def test_runs(self):
        picture = Picture.of((("red", "red", "blue", "red"), ("red", "white", "red", "red")))
        self.assertEqual(runs(picture, "across", "red"), ((0, 0, 2), (0, 3, 1), (1, 0, 1), (1, 2, 2)))
        self.assertEqual(runs(picture, "down", "red"), ((0, 0, 2), (0, 1, 1), (0, 3, 2), (1, 2, 1)))
        self.assertEqual(runs(picture, "down", "green"), ())

    def test_pieces_and_holes(self):
        ring = Picture.of((("red",) * 4, ("red", "white", "white", "red"), ("red",) * 4, ("blue", "white", "blue")))
        self.assertEqual(holes(ring), (((1, 1), (1, 2)),))
        self.assertEqual(len(pieces(ring, "red")), 1)
        self.assertEqual(pieces(ring, "blue"), (((3, 0),), ((3, 2),)))
        # Corners do not join cells: the middle is a hole, and the four pieces are apart.
        cross = Picture.of((("white", "red", "white"), ("red", "white", "red"), ("white", "red", "white")))
        self.assertEqual(holes(cross), (((1, 1),),))
        self.assertEqual(len(pieces(cross, "red")), 4)

    def test_shapes_that_turn_back(self):
        rows = ("rrrrrrr", "r.r.r.r", "r.r...r", "r...r.r", "rrrrrrr")
        picture = Picture.of([["red" if sign == "r" else "white" for sign in row] for row in rows])
        self.assertEqual(holes(picture), (tuple([
            (1, 1), (1, 3), (1, 5), (2, 1), (2, 3), (2, 4), (2, 5), (3, 1), (3, 2), (3, 3), (3, 5)]),))
        turned = Picture.of([["blue" if sign == "." else "white" for sign in row] for row in rows])
        self.assertEqual(pieces(turned, "blue"), holes(picture))
        self.assertEqual(holes(picture.turned(9, 9)), told_holes(picture.turned(9, 9)))

    def test_far_apart(self):
        far = Picture(((0, 0, "red"),)).moved(10 ** 39, 10 ** 39)
        self.assertEqual(holes(far), ())
        self.assertEqual(pieces(far, "red"), (((10 ** 39, 10 ** 39),),))

    def test_no_colours(self):
        for thing in ODD + ("white",):
            if thing != "red":
                self.assert_error(NoColour, {"colour": thing}, runs, Picture(), "across", thing)
                self.assert_error(NoColour, {"colour": thing}, pieces, Picture(), thing)

    def test_against_plain_ways(self):
        chance = rng(4)
        for _ in range(300):
            picture = random_picture(chance, ("red", "blue"), chance.randint(1, 7), chance.randint(1, 7), 0.7)
            self.assertEqual(holes(picture), told_holes(picture))
            for way in ("across", "down"):
                self.assertEqual(runs(picture, way, "red"), told_runs(picture, way, "red"))
            groups = pieces(picture, "red")
            self.assertEqual(groups, tuple([tuple(sorted(group)) for group in groups]))
            self.assertEqual(sorted([cell for group in groups for cell in group]),
                             [(row, column) for row, column, hue in picture if hue == "red"])
            self.assertEqual(groups, tuple(sorted(groups)))
            for one, other in itertools.combinations(groups, 2):
                self.assertFalse([1 for a in one for b in other if abs(a[0] - b[0]) + abs(a[1] - b[1]) == 1])


if __name__ == "__main__":
    unittest.main()
