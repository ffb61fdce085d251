import itertools
import unittest

from strayplates.claims import breach
from strayplates.errors import BadWish, NoUnit, Unlike
from strayplates.job import Job
from strayplates.jobpair import JobPair, swapped
from strayplates.picture import Picture
from strayplates.plate import Plate
from strayplates.press import Press
from strayplates.shelf import Shelf
from strayplates.swaps import exchange
from strayplates.verdict import Verdict
from tests.test_stacks import random_shelf
from tests.tools import ODD, ROSE, SKY, SUN, Checks, listed, plain_book, random_picture, rng, two_press

SHUT = ("shut", "across", "yellow", "blue", 1)
PAGE = Picture(((0, 0, "red"), (0, 1, "blue")))
CLAIMS = (SHUT, ("never", "green"), ("true",), ("holes",), ("pieces", "blue"), ("thick", "across", "yellow", 2),
          ("blank", 0, 1, 1, 2), ("keeps", "red"), ("narrow", "down", "blue", 2), ("fringe", "blue", 1))


def random_job(chance, press):
    plates = []
    for _ in press:
        cells = random_picture(chance, ("red",), 3, 4, chance.choice((0.2, 0.6)))
        plates.append(Plate([(row, column) for row, column, _ in cells]))
    return Job(press, plates)


class VerdictTest(unittest.TestCase, Checks):
    def setUp(self):
        self.job = plain_book().made(two_press(), PAGE)

    def told(self, verdict):
        return bool(verdict), verdict.lie, verdict.claim, verdict.cell, verdict.good

    def test_a_small_job(self):
        broken = Verdict(self.job, PAGE, (("never", "green"), SHUT))
        self.assertEqual(self.told(broken), (False, 1, 1, (0, 1), (0,)))
        self.assertEqual(self.told(Verdict(self.job, PAGE, [["never", "green"]])), (True, None, None, None, (0, 1)))
        self.assertEqual(self.told(Verdict(self.job, PAGE, (("never", "yellow"), SHUT))), (False, 0, 0, (0, 0), ()))
        self.assert_tuples(broken.good)

    def test_claims_without_places(self):
        told = Verdict(self.job, Picture(), (("pieces", "blue"),))
        self.assertEqual(self.told(told), (False, 0, 0, None, ()))

    def test_errors(self):
        for thing in (None, 3, "abc", (), CLAIMS[:7], {}, (None,) * 7, ()):
            self.assert_error(BadWish, {"number": -1}, Verdict, self.job, PAGE, thing)
        for thing in ODD + (("never", "white"), ("thick", "across", "red", 1)):
            self.assert_error(BadWish, {"number": 1}, Verdict, self.job, PAGE, (("true",), thing, None))
        Verdict(self.job, PAGE, CLAIMS[:6])

    def test_against_each_lie(self):
        chance = rng(97)
        kept = broken = 0
        for _ in range(200):
            press = two_press(((1, 0, 0, 1), (0, 0, 1, 1))[:chance.randint(1, 2)], (0, 1))
            job = random_job(chance, press)
            page = job.true_picture if chance.random() < 0.5 else random_picture(chance, ("red", "blue"), 3, 4)
            wish = tuple(chance.sample(CLAIMS, chance.randint(1, 3)))
            told = Verdict(job, page, listed(wish))
            found = [breach(wish, page, job.shown(lie)) for lie in press.lies]
            bad = [number for number, here in enumerate(found) if here is not None]
            self.assertEqual(told.good, tuple([number for number in range(len(found)) if number not in bad]))
            if bad:
                broken += 1
                self.assertEqual((told.lie, told.claim, told.cell), (bad[0], *found[bad[0]]))
            else:
                kept += 1
                self.assertEqual((told.lie, told.claim, told.cell), (None, None, None))
            self.assertIs(bool(told), not bad)
        self.assertGreater(min(kept, broken), 15)

    def test_asked_by_turns(self):
        other = Job(two_press(), (Plate(), Plate()))
        told = [[self.told(Verdict(job, PAGE, (SHUT,))) for job in (self.job, other)] for _ in range(2)]
        self.assertEqual(told[0], told[1])
        self.assertNotEqual(told[0][0], told[0][1])


class JobPairTest(unittest.TestCase, Checks):
    def test_alike(self):
        press = two_press()
        covered = Job(press, (Plate(((0, 0),)), Plate()))
        other = Press(Shelf((ROSE, ("dawn", "yellow", ()))), (("dawn", 0),), press.boxes)
        pair = JobPair(covered, Job(other, (Plate(((0, 0),)),)))
        self.assertTrue(pair)
        self.assertEqual((pair.lie, pair.cell), (None, None))

    def test_apart(self):
        press = two_press()
        still = two_press(passes=(0, 0))
        plates = (Plate(((0, 0),)), Plate(((0, 3), (1, 0))))
        pair = JobPair(Job(press, plates), Job(still, plates))
        self.assertFalse(pair)
        self.assertEqual((pair.lie, pair.cell), (1, (0, 3)))
        pair = JobPair(Job(press, plates), Job(press, (plates[0], Plate())))
        self.assertEqual((pair.lie, pair.cell), (0, (0, 3)))

    def test_unlike_boxes(self):
        for boxes, passes in (((), (0, 0)), (((0, 0, 1, 0),), (0, 1)), (((0, 0, 0, 1), (0, 0, 0, 0)), (0, 1))):
            other = Job(two_press(boxes, passes), (Plate(), Plate()))
            for jobs in ((Job(two_press(), (Plate(), Plate())), other), (other, Job(two_press(), (Plate(), Plate())))):
                self.assert_error(Unlike, {"word": "boxes"}, JobPair, *jobs)

    def test_against_each_lie(self):
        chance = rng(101)
        alike = apart = 0
        for _ in range(200):
            boxes = ((1, 0, 0, 1), (0, 0, 1, 0))
            jobs = [random_job(chance, Press(Shelf((SUN, SKY, ROSE)), chance.choice(
                ((("sun", 1), ("sky", 2)), (("sky", 2), ("rose", 0)), (("rose", 1),))), boxes)) for _ in range(2)]
            if chance.random() < 0.5:
                jobs[1] = Job(jobs[0].press, jobs[0].plates)
            differing = []
            for number, lie in enumerate(jobs[0].press.lies):
                one, other = [job.shown(lie) for job in jobs]
                differing += [(number, cell) for cell in itertools.product(range(-3, 9), range(-3, 9))
                              if one[cell] != other[cell]]
            pair = JobPair(*jobs)
            self.assertEqual((pair.lie, pair.cell), differing[0] if differing else (None, None))
            self.assertIs(bool(pair), not differing)
            apart += bool(differing)
            alike += not differing
        self.assertGreater(min(alike, apart), 50)


class SwappedTest(unittest.TestCase, Checks):
    def test_a_job(self):
        press = Press(Shelf((SUN, SKY, ROSE)), (("sun", 0), ("sky", 1), ("rose", 1)), ((0, 0, 0, 1),))
        plates = (Plate(((0, 0),)), Plate(((0, 1),)), Plate(((0, 2),)))
        job = Job(press, plates)
        self.assertEqual(swapped(job, 0), Job(Press(press.shelf, (("sky", 1), ("sun", 0), ("rose", 1)), press.boxes),
                                              (plates[1], plates[0], plates[2])))
        self.assertEqual(swapped(job, 1), Job(Press(press.shelf, (("sun", 0), ("rose", 1), ("sky", 1)), press.boxes),
                                              (plates[0], plates[2], plates[1])))
        self.assertEqual(swapped(swapped(job, 1), 1), job)

    def test_no_units(self):
        job = Job(two_press(), (Plate(), Plate()))
        for thing in ODD + (1, 2, -2):
            if thing != 0 or thing is False:
                self.assert_error(NoUnit, {"number": thing}, swapped, job, thing)
        alone = Job(Press(Shelf((SUN,)), (("sun", 0),)), (Plate(),))
        self.assert_error(NoUnit, {"number": 0}, swapped, alone, 0)

    def test_inks_that_can_be_exchanged(self):
        chance = rng(103)
        alike = apart = 0
        for _ in range(300):
            shelf = random_shelf(chance, 3)
            names = chance.sample(shelf.names, 3)
            press = Press(shelf, [(name, chance.randint(0, 1)) for name in names], ((0, 0, 1, 1),))
            job, number = random_job(chance, press), chance.randint(0, 1)
            pair = JobPair(job, swapped(job, number))
            if exchange(shelf, names[number], names[number + 1]) is None:
                self.assertTrue(pair)
                alike += 1
            apart += not pair
        self.assertGreater(min(alike, apart), 20)


if __name__ == "__main__":
    unittest.main()
