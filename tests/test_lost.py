import itertools
import unittest

from strayplates.errors import BadPulls, NoCell, NoLie, NoUnit, TooMany
from strayplates.job import Job
from strayplates.lost import Lost
from strayplates.picture import Picture
from strayplates.plate import Plate, plate_of
from strayplates.press import Press
from strayplates.remake import Remake
from strayplates.shelf import Shelf
from tests.tools import ODD, ROSE, SKY, SUN, Checks, lots, rng, two_press

COVER = ("cover", "tan", ())
CLEAR = ("clear", "pink", (("blue", "blue"), ("green", "green"), ("red", "white"), ("yellow", "yellow")))
BOXES = ((), ((0, 0, 0, 1),), ((0, 0, 1, 1),), ((0, 1, 1, 0),), ((0, 0, 0, 1), (0, 0, 1, 0)))


def random_press(chance, most=3):
    boxes = chance.choice(BOXES)
    inks = chance.sample((SUN, SKY, ROSE, COVER, CLEAR), chance.randint(1, most))
    return Press(Shelf(inks), [(ink[0], chance.randint(0, len(boxes))) for ink in chance.sample(inks, len(inks))], boxes)


def random_plate(chance, height=2, width=2, often=0.5):
    return Plate([(row, column) for row in range(height) for column in range(width) if chance.random() < often])


def random_job(chance, press, **more):
    return Job(press, [random_plate(chance, **more) for _ in press])


def without(job, number):
    """The job with something else in the place of the lost plate, which does not count."""
    return job.with_plate(number, Plate(((40, 40),)))


def candidates(job, number, pulls):
    """All cells that the lost plate can have: those below what pulls show, or what other plates print."""
    found = set()
    for lie in job.press.lies:
        rows, columns = job.press.shift(number, lie)
        cells = {cell for other in range(len(job.plates)) if other != number
                 for cell in job.plates[other].moved(*job.press.shift(other, lie))}
        cells |= {(row, column) for pull in pulls for row, column, _ in pull}
        found |= {(row - rows, column - columns) for row, column in cells}
    return sorted(found)


def plates_of(cells):
    return [Plate([cells[k] for k in lot]) for lot in lots(len(cells))]


class LostTest(unittest.TestCase, Checks):
    def setUp(self):
        # At the lie with the number 1, sky lies one column to the right.
        self.press = two_press()
        self.job = Job(self.press, (Plate(((0, 0), (0, 1))), Plate(((0, 1), (0, 2)))))

    def test_a_plate_that_is_sure(self):
        pulls = [self.job.shown(lie) for lie in self.press.lies]
        lost = Lost(without(self.job, 1), 1, pulls[:1])
        self.assertTrue(lost)
        # At the other lie, the same sheet comes of a plate one column to the left.
        self.assertEqual(lost.choices, ((0,), (1,)))
        self.assertEqual((lost.sure.cells, lost.open_cells), (((0, 1),), ((0, 0), (0, 2))))
        self.assertEqual(lost.with_cell([0, 2]).cells, ((0, 1), (0, 2)))
        self.assertEqual(lost.without_cell((0, 2)).cells, ((0, 0), (0, 1)))
        self.assertEqual((lost.with_cell((0, 0)).cells, lost.without_cell((0, 0)).cells), (((0, 0), (0, 1)), ((0, 1), (0, 2))))
        for plate, fits in ((self.job.plates[1], True), (Plate(((0, 0), (0, 1))), True), (Plate(((0, 1),)), False), (Plate(), False)):
            self.assertIs(lost.fits(plate), fits)
        self.assert_tuples((lost.choices, lost.open_cells))
        self.assertIs(type(lost.sure), Plate)

    def test_covered_cells(self):
        # Yellow under blue shows green; but tan covers what is under it.
        press = Press(Shelf((SUN, COVER)), (("sun", 0), ("cover", 0)))
        job = Job(press, (Plate(((0, 0), (0, 1))), Plate(((0, 1), (0, 2)))))
        lost = Lost(job, 0, (job.true_picture,))
        self.assertEqual((lost.choices, lost.sure.cells, lost.open_cells), (((0,),), ((0, 0),), ((0, 1), (0, 2))))
        self.assertEqual((lost.with_cell((0, 2)).cells, lost.without_cell((0, 2)).cells), (((0, 0), (0, 2)), ((0, 0),)))
        self.assertEqual([lost.fits(Plate(cells)) for cells in (((0, 0),), ((0, 0), (0, 1), (0, 2)), ((0, 1),), ((0, 0), (0, 3)))],
                         [True, True, False, False])

    def test_no_plate_fits(self):
        for pull in (Picture(((0, 0, "tan"),)), Picture(((0, 1, "green"),)), Picture(), Picture(((0, 0, "yellow"), (0, 5, "yellow")))):
            lost = Lost(self.job, 1, [pull])
            self.assertFalse(lost)
            self.assertEqual((lost.choices, lost.sure, lost.open_cells), ((), Plate(), ()))
            self.assertIs(lost.fits(Plate()), False)
        # Each pull fits alone, but not both.
        pulls = [self.job.shown(self.press.lies[0]), Job(self.press, (self.job.plates[0], Plate())).true_picture]
        self.assertEqual([bool(Lost(self.job, 1, [pull])) for pull in pulls], [True, True])
        self.assertFalse(Lost(self.job, 1, pulls))
        self.assertEqual(Lost(self.job, 1, pulls[1:]).sure, Plate())

    def test_empty_things(self):
        empty = Job(self.press, (Plate(), Plate()))
        lost = Lost(empty, 0, [Picture(), Picture(), Picture()])
        self.assertEqual((bool(lost), len(lost.choices), lost.sure, lost.open_cells), (True, 8, Plate(), ()))
        self.assertIs(lost.fits(Plate()), True)
        self.assertIs(lost.fits(Plate(((0, 0),))), False)

    def test_errors(self):
        pull = self.job.true_picture
        for thing in (-1, 2, True, None, "0", (0,)):
            self.assert_error(NoUnit, {"number": thing}, Lost, self.job, thing, None)
        for thing in (None, (), [], (pull,) * 4, pull, 3, "ab", {}, (None,) * 4):
            self.assert_error(BadPulls, {"number": -1}, Lost, self.job, 0, thing)
        for thing in (None, Plate(), pull.cells, (pull,), "red", 0):
            self.assert_error(BadPulls, {"number": 1}, Lost, self.job, 0, (pull, thing, None))
        lost = Lost(self.job, 1, (pull,))
        for thing in ODD + ((0, 1), (0, 3), (0, True), (False, 0), (0, 0, 0), "00", ((0, 0),)):
            if thing != [0, 0]:
                self.assert_error(NoCell, {"cell": thing}, lost.with_cell, thing)
                self.assert_error(NoCell, {"cell": thing}, lost.without_cell, thing)

    def test_2000_choices(self):
        for boxes, many, fits in ((((1, 1, 1, 2),), 3, True), (((0, 1, 3, 3),), 3, False), (((3, 3, 3, 2),), 2, True),
                                  (((1, 1, 1, 1), (0, 0, 2, 2)), 2, False), (((1, 1, 3, 3), (1, 0, 3, 3)), 1, True),
                                  (((1, 1, 3, 3), (1, 0, 3, 3)), 2, False)):
            press = two_press(boxes, (0, len(boxes)))
            job = Job(press, (Plate(((0, 0),)), Plate(((0, 0),))))
            self.assertIs(len(press.lies) ** many <= 2000, fits)
            pulls = [job.true_picture] * many
            if fits:
                lost = Lost(job, 1, pulls)
                self.assertIn((0,) * many, lost.choices)
            else:
                self.assert_error(TooMany, {"word": "choice"}, Lost, job, 1, pulls)
                self.assert_error(BadPulls, {"number": 0}, Lost, job, 1, (None, *pulls[1:]))

    def test_lists_and_turns(self):
        pulls = [self.job.shown(lie) for lie in self.press.lies]
        one = Lost(self.job, 1, pulls)
        pulls.pop()
        other = Lost(self.job, 0, tuple(pulls))
        told = [(one.choices, other.choices, one.sure.cells, other.open_cells, one.fits(Plate()), other.sure.cells) for _ in range(2)]
        self.assertEqual(told[0], told[1])
        self.assertEqual(one.choices, Lost(self.job, 1, [self.job.shown(lie) for lie in self.press.lies]).choices)

    def test_against_all_plates(self):
        chance = rng(571)
        met = {"none": 0, "one": 0, "open": 0, "many pulls": 0}
        while min(met.values()) < 15:
            press = random_press(chance)
            job, number = random_job(chance, press), chance.randrange(len(press))
            pulls = [job.shown(chance.choice(press.lies)) for _ in range(chance.randint(1, 3))]
            if chance.random() < 0.25:
                pulls[-1] = random_job(chance, press).shown(press.lies[-1])
            if chance.random() < 0.3:
                pulls[0] = job.with_plate(number, random_plate(chance)).shown(press.lies[0])
            cells = candidates(job, number, pulls)
            if len(cells) > 9:
                continue
            self.check_all(without(job, number), number, pulls, cells, met)

    def check_all(self, job, number, pulls, cells, met):
        lies = job.press.lies
        plates = plates_of(cells)
        shown = {plate.cells: [job.with_plate(number, plate).shown(lie) for lie in lies] for plate in plates}
        fitting = [plate for plate in plates if all(pull in shown[plate.cells] for pull in pulls)]
        lost = Lost(job, number, pulls)
        self.assertIs(bool(lost), bool(fitting))
        by_choice = {}
        for choice in itertools.product(range(len(lies)), repeat=len(pulls)):
            fit = [plate for plate in plates if all(shown[plate.cells][lie] == pull for lie, pull in zip(choice, pulls))]
            if fit:
                by_choice[choice] = fit
        self.assertEqual(lost.choices, tuple(by_choice))
        sure = [cell for cell in cells if fitting and all(cell in plate for plate in fitting)]
        some = [cell for cell in cells if any(cell in plate for plate in fitting)]
        self.assertEqual((lost.sure, lost.open_cells), (Plate(sure), tuple([cell for cell in some if cell not in sure])))
        for plate in plates:
            self.assertIs(lost.fits(plate), plate in fitting)
        self.assertIs(lost.fits(plate_of([*(fitting or plates)[0], (30, 30)])), False)
        for cell in lost.open_cells:
            for call, has in ((lost.with_cell, True), (lost.without_cell, False)):
                first = [fit for fit in by_choice.values() if any((cell in plate) == has for plate in fit)][0]
                least = min([plate for plate in first if (cell in plate) == has], key=len)
                self.assertEqual(call(cell), least)
                self.assertIs(lost.fits(call(cell)), True)
        met["none" if not fitting else "one" if len(fitting) == 1 else "open"] += 1
        met["many pulls"] += len(pulls) > 1 and len(fitting) > 0


class RemakeTest(unittest.TestCase, Checks):
    def test_small_ones(self):
        press = two_press()
        remake = Remake(press, 1)
        self.assertTrue(remake)
        table = (((), "blue", "white"), ((0,), "green", "yellow"))
        self.assertEqual((remake.table, len(remake), tuple(remake)), (table, 2, table))
        self.assert_tuples(remake.table)
        under = Remake(press, 0)
        self.assertTrue(under)
        self.assertEqual(under.table, (((), "yellow", "white"), ((1,), "green", "blue")))
        covered = Remake(Press(Shelf((SUN, COVER)), (("sun", 0), ("cover", 0))), 0)
        self.assertFalse(covered)
        self.assertEqual(covered.table, (((), "yellow", "white"), ((1,), "tan", "tan")))
        alone = Remake(Press(Shelf((SUN,)), (("sun", 0),)), 0)
        self.assertEqual((bool(alone), alone.table), (True, (((), "yellow", "white"),)))

    def test_lots_of_units(self):
        shelf = Shelf((SUN, SKY, ROSE, COVER))
        press = Press(shelf, (("rose", 0), ("sun", 0), ("cover", 0), ("sky", 0)))
        remake = Remake(press, 1)
        self.assertEqual([lot for lot, _, _ in remake.table], [(), (0,), (2,), (3,), (0, 2), (0, 3), (2, 3), (0, 2, 3)])
        for lot, inked, bare in remake.table:
            self.assertEqual(inked, shelf.stack([press.names[k] for k in sorted((*lot, 1))]))
            self.assertEqual(bare, shelf.stack([press.names[k] for k in lot]))
        self.assertFalse(remake)
        self.assertFalse(Remake(Press(shelf, (("sun", 0), ("rose", 0), ("sky", 0), ("cover", 0))), 0))
        # An ink that leaves what is under it, or makes it white.
        clear = Press(Shelf((SUN, ROSE, CLEAR)), (("sun", 0), ("rose", 0), ("clear", 0)))
        self.assertEqual(Remake(clear, 2).table, (((), "pink", "white"), ((0,), "yellow", "yellow"), ((1,), "white", "red"),
                                                  ((0, 1), "pink", "orange")))

    def test_errors(self):
        press = two_press()
        for thing in (-1, 2, True, None, "1", (0,)):
            self.assert_error(NoUnit, {"number": thing}, Remake, press, thing)
        remake, job = Remake(press, 0), Job(press, (Plate(), Plate()))
        for thing in (None, 0, (), ((0, 2),), ((0, -1),), ((0, True),), (0, 1), ((0, 0), (0, 0)), "a", ((0, 0, 0),)):
            self.assert_error(NoLie, {"lie": thing}, remake.remade, job, thing, Picture())

    def test_one_plate_or_several_or_none(self):
        press = Press(Shelf((SUN, COVER)), (("sun", 0), ("cover", 1)), ((0, 0, 0, 1),))
        job = Job(press, (Plate(((0, 0), (0, 1))), Plate(((0, 2),))))
        remake = Remake(press, 0)
        self.assertFalse(remake)
        # Tan covers the column 2 at the true lie, and the column 3 at the other one: there the plate can have a cell.
        self.assertIsNone(remake.remade(without(job, 0), ((0, 0),), job.true_picture))
        self.assertEqual(Remake(press, 1).remade(job, [[0, 0]], job.true_picture), job.plates[1])
        self.assertEqual(Remake(press, 1).remade(job, ((0, 1),), job.true_picture).cells, ((0, 1),))
        self.assertIsNone(Remake(press, 1).remade(job, ((0, 1),), Picture(((0, 0, "blue"),))))
        bare = Job(press, (Plate(((5, 5),)), Plate()))
        self.assertEqual(remake.remade(bare, ((0, 1),), Picture(((0, 0, "yellow"),))).cells, ((0, 0),))
        self.assertEqual(remake.remade(bare, ((0, 1),), Picture()), Plate())
        self.assertIsNone(remake.remade(bare, ((0, 1),), Picture(((0, 0, "tan"),))))

    def test_against_all_plates(self):
        chance = rng(573)
        met = {"true": 0, "false": 0, "one": 0, "none": 0, "several": 0}
        while min(met.values()) < 15:
            press = random_press(chance)
            number = chance.randrange(len(press))
            remake = Remake(press, number)
            met["true" if remake else "false"] += 1
            expected = []
            others = [k for k in range(len(press)) if k != number]
            for places in lots(len(others)):
                lot = [others[k] for k in places]
                # A job that has just the cell (0, 0) on the plates of the lot, with the lost plate and without it.
                cells = [Plate(((0, 0),)) if k in lot else Plate() for k in range(len(press))]
                inked, bare = [Job(press, cells).with_plate(number, Plate(told)).true_picture[(0, 0)] for told in (((0, 0),), ())]
                expected.append((tuple(lot), inked, bare))
            self.assertEqual(remake.table, tuple(expected))
            self.assertIs(bool(remake), all(inked != bare for _, inked, bare in expected))
            job = random_job(chance, press)
            lie = chance.choice(press.lies)
            pull = job.shown(lie)
            if remake:
                self.assertEqual(remake.remade(without(job, number), lie, pull), job.plates[number])
            if chance.random() < 0.4:
                pull = random_job(chance, press).shown(chance.choice(press.lies))
            cells = candidates(job, number, [pull])
            if len(cells) <= 9:
                fitting = [plate for plate in plates_of(cells) if job.with_plate(number, plate).shown(lie) == pull]
                self.assertEqual(remake.remade(without(job, number), lie, pull), fitting[0] if len(fitting) == 1 else None)
                met["none" if not fitting else "one" if len(fitting) == 1 else "several"] += 1


if __name__ == "__main__":
    unittest.main()
