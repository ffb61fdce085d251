import itertools
import unittest

from strayplates.errors import BadJob, BadPlate, BadPress, NoInk, NoLie, NoUnit, TooMany
from strayplates.job import Job
from strayplates.picture import Picture
from strayplates.plate import Plate
from strayplates.press import Press
from strayplates.shelf import Shelf
from tests.tools import ODD, ROSE, SKY, SUN, Checks, listed, rng, two_press


class PlateTest(unittest.TestCase, Checks):
    def test_cells(self):
        plate = Plate(((0, 1), (1, -2)))
        self.assertEqual((plate.cells, len(plate), list(plate)), (((0, 1), (1, -2)), 2, [(0, 1), (1, -2)]))
        for thing in ODD + ((True, -2), (0, True), (0.0, 1), "01"):
            self.assertIs(thing in plate, False)
        self.assertIs((0, 1) in plate, True)
        self.assertIs([1, -2] in plate, True)
        self.assertEqual(Plate().cells, ())

    def test_wrong_cells(self):
        Plate(((-50, -50), (50, 50)))
        for at in (0, 1):
            for number, fit in ((-51, False), (-50, True), (50, True), (51, False)):
                cell = (number, 7) if at == 0 else (7, number)
                if fit:
                    self.assertEqual(Plate((cell,)).cells, (cell,))
                else:
                    self.assert_error(BadPlate, {"number": 0}, Plate, (cell,))
        for cell in ((-51, 0), (0, 51), (True, 0), (0,), (0, 0, 0), None, "ab", ("0", 0), (0, 0)):
            self.assert_error(BadPlate, {"number": 1}, Plate, ((0, 0), cell, None))
        cells = tuple(itertools.product(range(4), range(51)))[:201]
        self.assertEqual(len(Plate(cells[:200])), 200)
        for thing in (cells, None, "", 3, {(0, 0)}, {}, (None,) * 201):
            self.assert_error(BadPlate, {"number": -1}, Plate, thing)

    def test_lists_are_kept_as_tuples(self):
        cells = [[0, 1]]
        plate = Plate(cells)
        cells[0][1] = 9
        cells.append([5, 5])
        self.assertEqual(plate.cells, ((0, 1),))
        self.assertIs((0, 1) in plate, True)
        self.assert_tuples(plate.cells)

    def test_signs(self):
        one, other = Plate(((0, 0), (0, 1))), Plate(((0, 1), (0, 2)))
        self.assertEqual((one + other).cells, ((0, 0), (0, 1), (0, 2)))
        self.assertEqual((one - other).cells, ((0, 0),))
        self.assertEqual((one.cells, other.cells), (((0, 0), (0, 1)), ((0, 1), (0, 2))))
        self.assertTrue(one == Plate([[0, 0], [0, 1]]))
        self.assertTrue(one != other)
        self.assertIs(one == ((0, 0), (0, 1)), False)

    def test_moved_turned_block(self):
        plate = Plate(((0, 0), (0, 2), (1, 0)))
        self.assertEqual(plate.moved(60, -60).cells, ((60, -60), (60, -58), (61, -60)))
        self.assertEqual(plate.turned(2, 3).cells, ((0, 2), (1, 0), (1, 2)))
        self.assertIs((1, 2) in plate.turned(2, 3), True)
        self.assertEqual(Plate.block(-1, 2, 2, 3).cells, ((-1, 2), (-1, 3), (-1, 4), (0, 2), (0, 3), (0, 4)))
        self.assertEqual(len(Plate.block(0, 0, 20, 20) + Plate.block(100, 0, 1, 1)), 401)


class PressTest(unittest.TestCase, Checks):
    def test_attributes(self):
        press = two_press(((1, 0, 0, 1),))
        self.assertEqual((press.units, press.boxes), ((("sun", 0), ("sky", 1)), ((1, 0, 0, 1),)))
        self.assertEqual(press.shelf, Shelf((SUN, SKY)))
        self.assertEqual((press.names, len(press), list(press)), (("sun", "sky"), 2, [("sun", 0), ("sky", 1)]))

    def test_lies(self):
        self.assertEqual(two_press((), (0, 0)).lies, ((),))
        self.assertEqual(two_press(((1, 0, 0, 1),)).lies, (((0, 0),), ((-1, 0),), ((0, 1),), ((-1, 1),)))
        press = two_press(((1, 1, 0, 0), (0, 0, 1, 2)), (1, 2))
        pairs = [[(-1, 0), (0, 0), (1, 0)], [(0, -1), (0, 0), (0, 1), (0, 2)]]
        lies = sorted(itertools.product(*pairs), key=lambda lie: (sum(abs(k) for pair in lie for k in pair), lie))
        self.assertEqual(press.lies, tuple(lies))
        for number, lie in enumerate(lies):
            self.assertEqual(press.number_of(lie), number)
            self.assertEqual(press.number_of(listed(lie)), number)
            self.assertEqual(press.off(lie), sum(abs(k) for pair in lie for k in pair))
            self.assertEqual(press.shift(0, lie), lie[0])
            self.assertEqual(press.shift(1, listed(lie)), lie[1])
        self.assertEqual(two_press().shift(0, ((0, 1),)), (0, 0))

    def test_most_lies(self):
        shelf, units = Shelf((SUN,)), (("sun", 1),)
        # 7 * 7 * 2 * 3 = 294, and 5 * 5 * 3 * 4 = 300; then 7 * 7 * 7 = 343, and 3 * 7 * 3 * 5 = 315.
        self.assertEqual(len(Press(shelf, units, ((3, 3, 3, 3), (1, 0, 1, 1))).lies), 294)
        self.assertEqual(len(Press(shelf, units, ((2, 2, 2, 2), (1, 1, 1, 2))).lies), 300)
        self.assert_error(TooMany, {"word": "lie"}, Press, shelf, units, ((3, 3, 3, 3), (3, 3, 0, 0)))
        self.assert_error(TooMany, {"word": "lie"}, Press, shelf, units, ((1, 1, 3, 3), (1, 1, 2, 2)))

    def test_no_lies(self):
        press = two_press(((1, 0, 0, 1),))
        for thing in ODD + (((0, 2),), ((1, 0),), ((0, 0), (0, 0)), ((0, True),), ((False, 0),), (0, 0), ((0,),),
                            ((0, 0, 0),), ["ab"], (("0", 0),), ((0.0, 0),)):
            for call in (press.number_of, press.off):
                self.assert_error(NoLie, {"lie": thing}, call, thing)
            self.assert_error(NoLie, {"lie": thing}, press.shift, 1, thing)
            self.assert_error(NoUnit, {"number": 2}, press.shift, 2, thing)
        self.assert_error(NoLie, {"lie": ((),)}, two_press((), (0, 0)).off, ((),))
        self.assertEqual(two_press((), (0, 0)).off([]), 0)

    def test_no_units(self):
        press = two_press()
        for thing in (None, True, False, -1, 2, "0", 0.0, (0,)):
            self.assert_error(NoUnit, {"number": thing}, press.shift, thing, ((0, 0),))
        self.assertEqual((press.unit_of("sun"), press.unit_of("sky")), (0, 1))
        for thing in ODD + ("rose",):
            self.assert_error(NoInk, {"name": thing}, press.unit_of, thing)

    def test_wrong_units(self):
        shelf = Shelf((SUN, SKY, ROSE, ("a", "a", ()), ("b", "b", ())))
        names = ("sun", "sky", "rose", "a", "b")
        Press(shelf, tuple([(name, 0) for name in names[:4]]))
        for units in (None, (), "ab", tuple([(name, 0) for name in names]), (("sun",),), (("sun", 0, 0),), ("ab",),
                      (("moon", 0),), (("sun", 0), ("sun", 0)), (("sun", 2),), (("sun", -1),), (("sun", True),),
                      ((["sun"], 0),), (("sun", "0"),), {"sun": 0}):
            self.assert_error(BadPress, {"word": "units"}, Press, shelf, units, ((0, 0, 0, 0),))
        self.assert_error(BadPress, {"word": "units"}, Press, shelf, (("sun", 1),))

    def test_wrong_boxes(self):
        shelf = Shelf((SUN,))
        box = (0, 1, 2, 3)
        self.assertEqual(Press(shelf, (("sun", 0),), (box,)).boxes, (box,))
        for boxes in (None, "ab", (box, box, box), (None,), ((0, 0, 0),), ((0, 0, 0, 0, 0),), ((4, 0, 0, 0),),
                      ((0, 0, 0, -1),), ((0, True, 0, 0),), ("0000",), box):
            self.assert_error(BadPress, {"word": "boxes"}, Press, shelf, (("sun", 0),), boxes)
            self.assert_error(BadPress, {"word": "boxes"}, Press, shelf, None, boxes)

    def test_mirror(self):
        press = two_press(((1, 0, 2, 3), (0, 2, 0, 1)), (1, 0))
        mirror = press.mirror
        self.assertEqual(mirror.boxes, ((0, 1, 3, 2), (2, 0, 1, 0)))
        self.assertEqual((mirror.units, mirror.shelf), (press.units, press.shelf))
        self.assertEqual({tuple([(-r, -c) for r, c in lie]) for lie in press.lies}, set(mirror.lies))
        self.assertTrue(mirror.mirror == press)

    def test_equal(self):
        self.assertTrue(two_press() == Press(Shelf((SUN, SKY)), [["sun", 0], ["sky", 1]], [[0, 0, 0, 1]]))
        self.assertTrue(two_press() != two_press(((0, 0, 1, 0),)))
        self.assertTrue(two_press() != two_press(passes=(1, 1)))
        self.assertTrue(two_press() != Press(Shelf((SUN, SKY, ROSE)), (("sun", 0), ("sky", 1)), ((0, 0, 0, 1),)))
        for thing in ODD:
            self.assertIs(two_press() == thing, False)

    def test_lists_are_kept_as_tuples(self):
        units, boxes = [["sun", 0], ["sky", 1]], [[0, 0, 0, 1]]
        press = Press(Shelf((SUN, SKY)), units, boxes)
        units[1][1] = 0
        boxes[0][3] = 3
        self.assertTrue(press == two_press())
        self.assert_tuples((press.units, press.boxes, press.lies))


class JobTest(unittest.TestCase, Checks):
    def setUp(self):
        self.press = two_press()
        self.plates = (Plate(((0, 0), (0, 1))), Plate(((0, 1), (0, 2))))
        self.job = Job(self.press, self.plates)

    def test_example(self):
        self.assertEqual(self.job.true_picture, Picture.of((("yellow", "green", "blue"),)))
        self.assertEqual(self.job.shown(((0, 1),)), Picture.of((("yellow", "yellow", "blue", "blue"),)))
        self.assertEqual(self.job.shown([[0, 0]]), self.job.true_picture)

    def test_attributes(self):
        self.assertEqual((self.job.press, self.job.plates), (self.press, self.plates))
        plates = list(self.plates)
        job = Job(self.press, plates)
        plates.pop()
        self.assertEqual(job.plates, self.plates)
        self.assertTrue(job == self.job)
        self.assertTrue(job != Job(self.press, self.plates[::-1]))
        self.assertTrue(job != Job(two_press(passes=(1, 1)), self.plates))
        self.assertIs(job == self.plates, False)

    def test_printed(self):
        self.assertEqual(self.job.printed((0, 1), ((0, 0),)), ("sun", "sky"))
        self.assertEqual(self.job.printed([0, 1], ((0, 1),)), ("sun",))
        self.assertEqual(self.job.printed((0, 3), ((0, 1),)), ("sky",))
        self.assertEqual(self.job.printed((9, 9), ((0, 1),)), ())

    def test_wrong_plates(self):
        plate = Plate()
        for thing in (None, (), (plate,), (plate,) * 3, "ab", plate, {0: plate, 1: plate}):
            self.assert_error(BadJob, {"number": -1}, Job, self.press, thing)
        for thing in (None, (), ((0, 0),), Picture()):
            self.assert_error(BadJob, {"number": 1}, Job, self.press, (plate, thing))
            self.assert_error(BadJob, {"number": 0}, Job, self.press, (thing, thing))

    def test_no_lies(self):
        for thing in (((0, 2),), None, 1, ((0, True),)):
            self.assert_error(NoLie, {"lie": thing}, self.job.shown, thing)
            self.assert_error(NoLie, {"lie": thing}, self.job.printed, (0, 0), thing)

    def test_with_plate(self):
        job = self.job.with_plate(0, Plate())
        self.assertEqual(job.plates, (Plate(), self.plates[1]))
        self.assertEqual(self.job.with_plate(1, Plate()).plates, (self.plates[0], Plate()))
        self.assertEqual(self.job.plates, self.plates)
        for thing in (True, False, -1, 2, None, "0"):
            self.assert_error(NoUnit, {"number": thing}, self.job.with_plate, thing, Plate())

    def test_white_results_and_asked_by_turns(self):
        shelf = Shelf((SUN, ("wash", "gray", (("yellow", "white"),))))
        job = Job(Press(shelf, (("sun", 0), ("wash", 1)), ((0, 0, 0, 1),)), (Plate(((0, 0),)), Plate(((0, 0),))))
        for _ in range(2):
            self.assertEqual(job.true_picture, Picture())
            self.assertEqual(job.shown(((0, 1),)), Picture.of((("yellow", "gray"),)))
            self.assertEqual(self.job.true_picture.hues, ("blue", "green", "yellow"))

    def test_against_cell_by_cell(self):
        chance = rng(7)
        shelf = Shelf((SUN, SKY, ROSE))
        for _ in range(40):
            units = [(name, chance.randint(0, 2)) for name in chance.sample(("sun", "sky", "rose"), 3)]
            press = Press(shelf, units, ((1, 0, 0, 1), (0, 1, 1, 0)))
            cells = [(r, c) for r in range(3) for c in range(3)]
            plates = [Plate(sorted(chance.sample(cells, chance.randint(0, 9)))) for _ in units]
            job = Job(press, plates)
            for lie in press.lies:
                picture = job.shown(lie)
                for cell in itertools.product(range(-2, 6), range(-2, 6)):
                    names = []
                    for number, (name, _) in enumerate(units):
                        down, right = press.shift(number, lie)
                        if (cell[0] - down, cell[1] - right) in plates[number]:
                            names.append(name)
                    self.assertEqual(job.printed(cell, lie), tuple(names))
                    self.assertEqual(picture[cell], shelf.stack(names))


if __name__ == "__main__":
    unittest.main()
