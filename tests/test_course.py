import itertools
import unittest

from strayplates.book import Book
from strayplates.claims import breach
from strayplates.course import Course
from strayplates.errors import BadHand, BadLooks, BadPace, BadRun, BadWish, NoLie, Unlike
from strayplates.hand import Hand, followers, turned_lie
from strayplates.job import Job
from strayplates.picture import Picture
from strayplates.plate import Plate
from strayplates.press import Press
from strayplates.runverdict import RunVerdict, judge_run, waste
from strayplates.shelf import Shelf
from tests.test_verdict import random_job
from tests.tools import ODD, ROSE, SKY, SUN, Checks, listed, plain_book, random_picture, rng, two_press

PRESSES = ((((0, 0, 1, 2),), (0, 1)), (((1, 1, 1, 1),), (1, 0)), (((0, 0, 0, 1), (0, 1, 0, 0)), (1, 2)),
           (((0, 0, 1, 1), (0, 0, 1, 1)), (2, 1)), ((), (0, 0)), (((0, 0, 3, 3),), (0, 1)), (((2, 0, 0, 2),), (1, 1)))
PULLED = two_press(((0, 0, 3, 3),), (0, 1))
LOOKS = ((0, 0), (0, 1), (0, 2))
WISHES = ((("never", "green"),), (("never", "yellow"), ("never", "blue")), (("blank", 0, 3, 2, 3),), (("true",),),
          (("shut", "across", "yellow", "blue", 1),), (("narrow", "across", "green", 1),), (("never", "tan"),))
COLOURS = ("white", "yellow", "blue", "green")


def random_press(chance):
    return two_press(*chance.choice(PRESSES))


def random_turn(chance, press, reach=3):
    return tuple([(chance.randint(-reach, reach), chance.randint(-reach, reach)) for _ in press.boxes])


def random_hand(chance, press, looks=LOOKS, most=4, reach=2):
    rows = []
    for _ in range(chance.randint(0, most)):
        pattern = tuple([chance.choice((None, *COLOURS)) for _ in looks])
        rows.append((pattern, random_turn(chance, press, reach)))
    if chance.random() < 0.5:
        rows.append(((None,) * len(looks), random_turn(chance, press, 1)))
    return Hand(press, looks, rows)


def numbers(press):
    return range(len(press.lies))


def clamped(press, lie, turn):
    """The lie, turned, number by number."""
    pairs = []
    for (row, column), (rows, columns), (up, down, left, right) in zip(lie, turn, press.boxes):
        pairs.append((sorted((-up, row + rows, down))[1], sorted((-left, column + columns, right))[1]))
    return tuple(pairs)


def distance(lie, other):
    return sum(abs(a - b) for one, two in zip(lie, other) for a, b in zip(one, two))


def told_follows(course):
    """For each lie, the lies that can follow, told plainly."""
    press, found = course.job.press, {}
    for number, lie in enumerate(press.lies):
        picture = course.job.shown(lie)
        sight = tuple([picture[cell] for cell in course.hand.looks])
        fit = [turn for pattern, turn in course.hand.rows
               if all(colour in (None, seen) for colour, seen in zip(pattern, sight))]
        turned = clamped(press, lie, fit[0] if fit else ((0, 0),) * len(press.boxes))
        found[number] = tuple([k for k, other in enumerate(press.lies) if distance(turned, other) <= course.pace])
    return found


class HandTest(unittest.TestCase, Checks):
    def setUp(self):
        self.press = two_press(((0, 0, 1, 2),))
        self.rows = ((("yellow", None), ((0, 1),)), ((None, "blue"), ((0, -2),)), (("yellow", "white"), ((3, -3),)))
        self.hand = Hand(self.press, LOOKS[:2], self.rows)

    def test_attributes(self):
        hand = Hand(self.press, listed(LOOKS[:2]), listed(self.rows))
        self.assertEqual((hand.press, hand.looks, hand.rows), (self.press, LOOKS[:2], self.rows))
        self.assertEqual((len(hand), tuple(hand)), (3, self.rows))
        self.assert_tuples((hand.looks, hand.rows))
        self.assertTrue(hand == self.hand)
        for other in (Hand(self.press, LOOKS[:2]), Hand(self.press, LOOKS[1::-1], self.rows),
                      Hand(two_press(((0, 0, 1, 1),)), LOOKS[:2], self.rows), Hand(self.press, LOOKS[:2], self.rows[:2])):
            self.assertTrue(hand != other)
        for thing in ODD:
            self.assertIs(hand == thing, False)
        bare = Hand(two_press((), (0, 0)), ())
        self.assertEqual((bare.looks, bare.rows, len(bare), bare(())), ((), (), 0, ()))

    def test_answers(self):
        for sight, turn in ((("yellow", "blue"), ((0, 1),)), (["yellow", "white"], ((0, 1),)), (("white", "blue"), ((0, -2),)),
                            (("green", "green"), ((0, 0),)), (("white", "white"), ((0, 0),))):
            self.assertEqual(self.hand(sight), turn)
            self.assert_tuples(self.hand(sight))
        white = Hand(self.press, LOOKS[:1], ((("white",), ((1, 1),)),))
        self.assertEqual((white(("white",)), white(("blue",))), (((1, 1),), ((0, 0),)))
        none = Hand(self.press, (), (((), ((2, 2),)), ((), ((1, 1),))))
        self.assertEqual(none(()), ((2, 2),))
        two = Hand(two_press(((0, 0, 0, 1), (0, 1, 0, 0)), (1, 2)), LOOKS[:1])
        self.assertEqual(two(("white",)), ((0, 0), (0, 0)))

    def test_sights(self):
        job = plain_book().made(self.press, Picture(((0, 0, "red"), (0, 1, "blue"))))
        self.assertEqual([self.press.lies[k] for k in numbers(self.press)], [((0, 0),), ((0, -1),), ((0, 1),), ((0, 2),)])
        self.assertEqual([self.hand.sight(job, k) for k in numbers(self.press)], [
            ("yellow", "blue"), ("green", "white"), ("yellow", "white"), ("yellow", "white")])
        self.assertEqual(Hand(self.press, ()).sight(job, 3), ())
        far = Hand(self.press, ((10 ** 30, 0), (-1, -1)))
        self.assertEqual(far.sight(job, 0), ("white", "white"))
        for thing in (-1, 4, True, None, "0", 1.0, ((0, 0),), ()):
            self.assert_error(NoLie, {"lie": thing}, self.hand.sight, job, thing)

    def test_looks_and_rows(self):
        seven = tuple([(0, k) for k in range(7)])
        self.assertEqual(len(Hand(self.press, seven[:6]).looks), 6)
        for thing in (None, 3, "ab", {}, seven, (None,) * 7):
            self.assert_error(BadLooks, {"number": -1}, Hand, self.press, thing, None)
        for thing in (None, 3, "ab", (0,), (0, 1, 2), (0, True), (0, 0), [0, 0], (0, "1"), ()):
            self.assert_error(BadLooks, {"number": 2}, Hand, self.press, ((0, 0), (5, 5), thing, None), None)
        self.assertEqual(len(Hand(self.press, LOOKS[:2], self.rows[:1] * 12)), 12)
        for thing in (None, 3, "ab", {}, self.rows[:1] * 13, (None,) * 13):
            self.assert_error(BadHand, {"number": -1}, Hand, self.press, LOOKS[:2], thing)
        pattern, turn = ("yellow", None), ((0, 1),)
        for thing in (None, 3, "ab", (), (pattern,), (pattern, turn, turn), (pattern[:1], turn), (pattern + (None,), turn),
                      (("Red", None), turn), ((3, None), turn), ((True, None), turn), ("ab", turn), (None, turn),
                      (pattern, ()), (pattern, turn * 2), (pattern, ((0,),)), (pattern, ((0, 1, 2),)), (pattern, ((4, 0),)),
                      (pattern, ((0, -4),)), (pattern, ((0, True),)), (pattern, ((0, None),)), (pattern, (0, 1)), (pattern, None),
                      (pattern, "ab"), (((None,), None), turn)):
            self.assert_error(BadHand, {"number": 1}, Hand, self.press, LOOKS[:2], ((pattern, turn), thing, None))
        for turn in (((3, -3),), ((-3, 3),)):
            self.assertEqual(Hand(self.press, LOOKS[:2], [[pattern, turn]]).rows, ((pattern, turn),))
        self.assert_error(BadHand, {"number": 0}, Hand, two_press((), (0, 0)), (), (((), ((0, 0),)),))
        self.assertEqual(Hand(two_press((), (0, 0)), (), (((), ()),)).rows, (((), ()),))

    def test_turned_lies(self):
        press = Press(Shelf((SUN,)), (("sun", 1),), ((1, 2, 0, 3), (0, 0, 1, 1)))
        for number, turn, lie in ((0, ((2, 3), (0, 1)), ((2, 3), (0, 1))), (0, ((3, 3), (3, 3)), ((2, 3), (0, 1))),
                                  (0, ((-3, -3), (-3, -3)), ((-1, 0), (0, -1))), (0, ((0, 0), (0, 0)), ((0, 0), (0, 0))),
                                  (press.number_of(((2, 3), (0, 1))), ((-1, -1), (0, -1)), ((1, 2), (0, 0)))):
            self.assertEqual(press.lies[turned_lie(press, number, listed(turn))], lie)
        self.assertEqual(turned_lie(two_press((), (0, 0)), 0, ()), 0)
        chance = rng(541)
        for _ in range(200):
            press = random_press(chance)
            number, turn = chance.choice(numbers(press)), random_turn(chance, press)
            self.assertEqual(press.lies[turned_lie(press, number, turn)], clamped(press, press.lies[number], turn))
        for thing in (-1, 6 * 7, True, None, "0", ((0, 0), (0, 0))):
            self.assert_error(NoLie, {"lie": thing}, turned_lie, press, thing, ())

    def test_followers(self):
        press = two_press(((0, 0, 1, 2),))
        self.assertEqual([followers(press, 0, pace) for pace in (0, 1, 2)], [(0,), (0, 1, 2), (0, 1, 2, 3)])
        self.assertEqual([followers(press, 3, pace) for pace in (0, 1, 2)], [(3,), (2, 3), (0, 2, 3)])
        chance = rng(543)
        for _ in range(200):
            press = random_press(chance)
            number, pace = chance.choice(numbers(press)), chance.randint(0, 2)
            near = [k for k in numbers(press) if distance(press.lies[number], press.lies[k]) <= pace]
            self.assertEqual(followers(press, number, pace), tuple(near))
        for thing in (-1, 300, False, None, (0, 0)):
            self.assert_error(NoLie, {"lie": thing}, followers, press, thing, 1)


class CourseTest(unittest.TestCase, Checks):
    def setUp(self):
        self.press = two_press(((0, 0, 1, 2),))
        self.page = Picture(((0, 0, "red"), (0, 1, "blue")))
        self.job = plain_book().made(self.press, self.page)
        # It turns to the left when blue does not show beside yellow.
        self.hand = Hand(self.press, LOOKS[:2], ((("yellow", "white"), ((0, -1),)),))

    def test_attributes(self):
        course = Course(self.job, self.hand, pace=2, start=3)
        self.assertEqual((course.job, course.hand, course.pace, course.start), (self.job, self.hand, 2, 3))
        course = Course(self.job, self.hand)
        self.assertEqual((course.pace, course.start), (1, 0))

    def test_a_small_one(self):
        course = Course(self.job, self.hand)
        self.assertEqual([course.turned(k) for k in range(4)], [0, 1, 0, 2])
        self.assertEqual([course.follows(k) for k in range(4)], [(0, 1, 2), (0, 1), (0, 1, 2), (0, 2, 3)])
        still = Course(self.job, self.hand, pace=0, start=3)
        self.assertEqual([still.follows(k) for k in range(4)], [(0,), (1,), (0,), (2,)])
        self.assertEqual(Course(self.job, self.hand, pace=2).follows(0), (0, 1, 2, 3))
        self.assert_tuples(course.follows(0))
        for thing in (-1, 4, True, None, "0", ((0, 0),)):
            self.assert_error(NoLie, {"lie": thing}, course.turned, thing)
            self.assert_error(NoLie, {"lie": thing}, course.follows, thing)

    def test_errors(self):
        other = Hand(two_press(((0, 0, 1, 1),)), LOOKS[:2])
        self.assert_error(Unlike, {"word": "press"}, Course, self.job, other, pace=7, start=9)
        # An equal press is enough.
        self.assertEqual(Course(self.job, Hand(two_press(((0, 0, 1, 2),)), ())).follows(3), (2, 3))
        for thing in (-1, 3, True, None, "1", 1.0, (1,)):
            self.assert_error(BadPace, {"pace": thing}, Course, self.job, self.hand, pace=thing, start=9)
        for thing in (-1, 4, False, None, "0", ((0, 0),), 0.0):
            self.assert_error(NoLie, {"lie": thing}, Course, self.job, self.hand, start=thing)

    def test_runs(self):
        course = Course(self.job, self.hand)
        for run in ((0,), [0], (0, 0, 1, 0, 2, 0), [0, 2, 2, 1]):
            self.assertIs(course.is_run(run), True)
        for thing in [odd for odd in ODD if odd not in ([0, 0], (0, 0, 0))] + ["0", "", (), (1,), (0, 3), (0, 1, 2), (0, 0, True), (False,), (0, None), (0, 4), (0, -1), (0, "1"), (0, (0,)),
                            ((0, 0),), {0: 1}, {0}, (0, 0.0), 0]:
            self.assertIs(course.is_run(thing), False)
        self.assertIs(Course(self.job, self.hand, start=3).is_run((3, 3, 2)), True)

    def test_sheets(self):
        course = Course(self.job, self.hand)
        pictures = [self.job.shown(lie) for lie in self.press.lies]
        self.assertEqual(list(course.sheets((0, 1, 0, 2))), [pictures[k] for k in (0, 1, 0, 2)])
        self.assertEqual(list(course.sheets(())), [])
        for run, place in (((1,), 0), ((0, 0, 3, 1), 2), ((0, True), 1), ((False,), 0), ((0, 2, None), 2), ([0, 1, 2], 2), ((0, 4), 1),
                           ((0, (0,)), 1), (("0",), 0), ((0, 0.0), 1), ((3, 2), 0)):
            sheets = course.sheets(run)
            for number in run[:place]:
                self.assertEqual(next(sheets), pictures[number])
            self.assert_error(BadRun, {"number": place}, next, sheets)

    def test_a_generator_does_nothing_before_it_is_iterated(self):
        course = Course(self.job, self.hand)
        sheets = course.sheets((1,))
        course.sheets(None)
        self.assert_error(BadRun, {"number": 0}, next, sheets)
        # What is changed while it is iterated does not change what comes.
        run = [0, 1, 1]
        sheets = course.sheets(run)
        first = next(sheets)
        run[1] = 3
        run.pop()
        self.assertEqual([first, *sheets], [self.job.shown(self.press.lies[k]) for k in (0, 1, 1)])
        one, other = course.sheets((0, 1)), course.sheets((0, 2))
        self.assertEqual([next(one), next(other), next(one), next(other)], [
            self.job.shown(self.press.lies[k]) for k in (0, 0, 1, 2)])

    def test_against_plain_ways(self):
        chance = rng(545)
        for _ in range(120):
            press = random_press(chance)
            course = Course(random_job(chance, press), random_hand(chance, press), pace=chance.randint(0, 2),
                            start=chance.choice(numbers(press)))
            follows = told_follows(course)
            for number in numbers(press):
                self.assertEqual(course.follows(number), follows[number])
                picture = course.job.shown(press.lies[number])
                self.assertEqual(course.hand.sight(course.job, number), tuple([picture[cell] for cell in LOOKS]))
            run = [course.start]
            for _ in range(4):
                run.append(chance.choice(follows[run[-1]]) if chance.random() < 0.8 else chance.choice(numbers(press)))
            right = [k for k in range(1, 5) if run[k] not in follows[run[k - 1]]]
            self.assertIs(course.is_run(run), not right)
            if right:
                self.assertRaises(BadRun, list, course.sheets(run))
            else:
                self.assertEqual(list(course.sheets(run)), [course.job.shown(press.lies[k]) for k in run])


def good_lies(course, page, wish):
    job = course.job
    return [number for number, lie in enumerate(job.press.lies) if breach(wish, page, job.shown(lie)) is None]


def lot_or_run(course, good):
    """The lot and None, or None and the run, told plainly."""
    follows = told_follows(course)
    runs = {course.start: (course.start,)}
    waiting = [course.start]
    if course.start not in good:
        return None, runs[course.start]
    for number in waiting:
        for other in follows[number]:
            if other not in runs:
                runs[other] = (*runs[number], other)
                waiting.append(other)
                if other not in good:
                    return None, runs[other]
    return tuple(waiting), None


def told_waste(course, good):
    """The greatest number of bad sheets in a row, by rows that grow; None if they grow for ever."""
    follows = told_follows(course)
    reached = {course.start}
    while True:
        further = reached | {other for number in reached for other in follows[number]}
        if further == reached:
            break
        reached = further
    ends = {number for number in reached if number not in good}
    bad, many = set(ends), 0
    while ends:
        many += 1
        if many > len(bad):
            return None
        ends = {other for number in ends for other in follows[number] if other in bad}
    return many


class RunVerdictTest(unittest.TestCase, Checks):
    def setUp(self):
        self.press = two_press(((0, 0, 1, 2),))
        self.page = Picture(((0, 0, "red"), (0, 1, "blue")))
        self.job = plain_book().made(self.press, self.page)
        self.hand = Hand(self.press, LOOKS[:2], ((("yellow", "white"), ((0, -2),)),))
        # At the lie with the number 3, blue is two columns too far to the right; at the lie 1 it lies on yellow.
        self.wish = (("blank", 0, 3, 1, 1),)

    def test_a_small_one(self):
        course = Course(self.job, self.hand)
        told = RunVerdict(course, self.page, listed(self.wish))
        self.assertTrue(told)
        self.assertEqual((told.lot, told.run, len(told), tuple(told)), ((0, 1, 2), None, 3, (0, 1, 2)))
        still = RunVerdict(Course(self.job, Hand(self.press, ())), self.page, self.wish)
        self.assertFalse(still)
        self.assertEqual((still.lot, still.run, len(still), list(still)), (None, (0, 2, 3), 0, []))
        self.assert_tuples(still.run)
        start = RunVerdict(Course(self.job, self.hand, start=3), self.page, self.wish)
        self.assertEqual((bool(start), start.lot, start.run), (False, None, (3,)))
        self.assertEqual(RunVerdict(Course(self.job, self.hand, pace=0), self.page, (("never", "tan"),)).lot, (0,))

    def test_waste(self):
        # With the hand, a bad sheet is followed by a good one; without it, it can stay for ever.
        self.assertEqual(waste(Course(self.job, self.hand), self.page, self.wish), 0)
        self.assertEqual(waste(Course(self.job, self.hand, start=3), self.page, self.wish), 1)
        self.assertIsNone(waste(Course(self.job, Hand(self.press, ())), self.page, self.wish))
        self.assertEqual(waste(Course(self.job, Hand(self.press, ()), pace=0), self.page, self.wish), 0)
        self.assertIsNone(waste(Course(self.job, Hand(self.press, ()), pace=0, start=3), self.page, self.wish))
        left = Hand(self.press, LOOKS[:1], ((("yellow",), ((0, -1),)),))
        long = Course(self.job, left, pace=0, start=3)
        self.assertEqual([long.follows(k) for k in (3, 2, 0)], [(2,), (0,), (1,)])
        self.assertEqual(waste(long, self.page, (("never", "blue"), ("never", "tan"))), 3)
        self.assertEqual(waste(long, self.page, (("never", "blue"),)), 3)
        self.assertEqual(waste(long, self.page, (("blank", 0, 2, 1, 5),)), 2)

    def test_errors(self):
        course = Course(self.job, self.hand)
        for call, told in ((RunVerdict, ()), (judge_run, (None,)), (waste, ())):
            for thing in (None, 3, "ab", (), self.wish * 7, {}):
                self.assert_error(BadWish, {"number": -1}, call, course, self.page, thing, *told)
            for thing in (None, "true", ("never", "white"), ("never",), ()):
                self.assert_error(BadWish, {"number": 1}, call, course, self.page, (*self.wish, thing, None), *told)

    def test_judging(self):
        course = Course(self.job, self.hand)
        for lot in ((0, 1, 2), (2, 1, 0), [1, 0, 2, 2, 0, 1]):
            self.assertIsNone(judge_run(course, self.page, self.wish, lot))
        for thing in (None, 3, "012", {}, {0, 1, 2}, (), (1, 2), (False, 1, 2), ("0",), ((0,),)):
            self.assertEqual(judge_run(course, self.page, self.wish, thing), -1)
        for lot, number in (((0, 1), 0), ((1, 0, 2, 3), 3), ((3, 0, 1, 2), 0), ((0, 1, 2, 4), 3), ((0, 1, 2, True), 3), ((0, 1, -1, 2), 2),
                            ((0, 1, 2, None), 3), (("2", 0, 1, 2), 0), ((0, 2), 0), ((0, 1, True), 0), ((0, 1, 2, (0,)), 3)):
            self.assertEqual(judge_run(course, self.page, self.wish, lot), number, lot)
        # A lie that is good, but from which runs lead out of the lot.
        still = Course(self.job, Hand(self.press, ()), pace=0)
        self.assertIsNone(judge_run(still, self.page, self.wish, (0,)))
        self.assertIsNone(judge_run(still, self.page, self.wish, (0, 2, 1)))
        self.assertEqual(judge_run(Course(self.job, Hand(self.press, ())), self.page, self.wish, (0, 1, 2)), 2)

    def test_against_plain_ways(self):
        chance = rng(547)
        kept = broken = 0
        wasted = []
        for _ in range(300):
            press = random_press(chance)
            page = random_picture(chance, ("red", "blue"), 2, 3)
            job = plain_book().made(press, page) if chance.random() < 0.7 else random_job(chance, press)
            course = Course(job, random_hand(chance, press), pace=chance.randint(0, 2), start=chance.choice(numbers(press)))
            wish = chance.choice(WISHES)
            if chance.random() < 0.3:
                turns = [(((None,) * 3), ((0, chance.choice((-1, 1))),))]
                course = Course(plain_book().made(PULLED, page), Hand(PULLED, LOOKS, turns), pace=0, start=chance.randint(0, 6))
                wish = (("blank", 0, chance.randint(-3, 3), 2, 2),)
            good = good_lies(course, page, wish)
            told = RunVerdict(course, page, wish)
            self.assertEqual((told.lot, told.run), lot_or_run(course, good))
            self.assertIs(bool(told), told.run is None)
            wasted.append(told_waste(course, good))
            self.assertEqual(waste(course, page, listed(wish)), wasted[-1])
            follows = told_follows(course)
            if told:
                kept += 1
                lot = list(told.lot)
                chance.shuffle(lot)
                self.assertIsNone(judge_run(course, page, wish, lot + lot))
            else:
                broken += 1
                self.assertTrue(course.is_run(told.run))
            lot = chance.sample(list(numbers(press)), chance.randint(1, len(press.lies)))
            wrong = [k for k, number in enumerate(lot) if number not in good or not set(follows[number]) <= set(lot)]
            expected = -1 if course.start not in lot else wrong[0] if wrong else None
            self.assertEqual(judge_run(course, page, wish, lot), expected)
        self.assertGreater(min(kept, broken), 50)
        self.assertGreater(len([many for many in wasted if many is None]), 20)
        self.assertGreater(len([many for many in wasted if many]), 20)
        self.assertGreater(max([many or 0 for many in wasted]), 1)

    def test_many_lies(self):
        press = Press(Shelf((SUN, SKY, ROSE)), (("sun", 1), ("sky", 2), ("rose", 0)), ((1, 1, 3, 3), (1, 0, 3, 3)))
        self.assertEqual(len(press.lies), 294)
        job = Job(press, (Plate.block(0, 0, 2, 3), Plate.block(0, 1, 2, 3), Plate(((0, 0),))))
        course = Course(job, Hand(press, LOOKS), pace=2)
        told = RunVerdict(course, Picture(), (("never", "tan"),))
        self.assertEqual((len(told), sorted(told)), (294, list(range(294))))
        self.assertIsNone(waste(course, Picture(), (("never", "red"),)))

    def test_asked_by_turns(self):
        one, other = Course(self.job, self.hand), Course(self.job, Hand(self.press, ()), pace=0, start=3)
        told = [(one.follows(2), other.follows(2), RunVerdict(one, self.page, self.wish).lot, waste(other, self.page, self.wish),
                 RunVerdict(other, self.page, self.wish).run, self.hand(("yellow", "blue"))) for _ in range(2)]
        self.assertEqual(told[0], told[1])

    def test_lists_are_kept(self):
        looks, rows = listed(LOOKS[:2]), listed(self.hand.rows)
        hand = Hand(self.press, looks, rows)
        looks[0][0] = 7
        rows[0][1][0][1] = 3
        rows.pop()
        self.assertEqual((hand.looks, hand.rows), (LOOKS[:2], self.hand.rows))
        self.assertEqual(hand(("yellow", "white")), ((0, -2),))
        self.assert_tuples(hand.rows)


if __name__ == "__main__":
    unittest.main()
