import functools
import itertools
import unittest
from unittest import mock

from strayplates.claims import breach
from strayplates.common import Finding
from strayplates.errors import BadLooks, BadLot, BadPace, BadTurns, BadWish, NoLot, NoPart, TooMany
from strayplates.job import Job
from strayplates.keep import Keep, judge_keep
from strayplates.known import Known
from strayplates.leastsights import LeastSights
from strayplates.picture import Picture
from strayplates.plate import Plate
from tests.test_course import LOOKS, WISHES, clamped, distance, random_press, random_turn
from tests.test_verdict import random_job
from tests.tools import ODD, Checks, listed, lots, plain_book, random_picture, rng, two_press

SWAYING = two_press(((0, 0, 2, 2),))
SWAYED = (("blank", 0, -1, 1, 1), ("blank", 0, 3, 1, 1))
STILL = ((0, 0),)
BACK = ((0, -1),)
ON = ((0, 1),)


def told_parts(job, looks, lot):
    """The parts of a lot of lies, by what is seen at the looks."""
    found = {}
    for number in lot:
        picture = job.shown(job.press.lies[number])
        found.setdefault(tuple([picture[cell] for cell in looks]), []).append(number)
    return [tuple(part) for part in found.values()]


def told_next(job, part, turn, pace):
    lies = job.press.lies
    turned = [clamped(job.press, lies[number], turn) for number in part]
    return tuple([k for k, lie in enumerate(lies) if any(distance(lie, other) <= pace for other in turned)])


class Game:
    """What can be known, told plainly: lots, parts, next lots, and values by a search of so many sheets."""

    def __init__(self, job, looks, turns, pace, first, good):
        self.job, self.looks, self.turns, self.pace, self.good = job, looks, turns, pace, good
        self.parts = functools.cache(lambda lot: tuple(told_parts(job, looks, lot)))
        self.next = functools.cache(lambda part, turn: told_next(job, part, turn, pace))
        self.lots = [first]
        for lot in self.lots:
            for part, turn in itertools.product(self.parts(lot), turns):
                if self.next(part, turn) not in self.lots:
                    self.lots.append(self.next(part, turn))

        @functools.cache
        def forced(lot, sheets):
            """Whether a bad sheet can come within so many further ones, whatever the hand does."""
            if any(number not in good for number in lot):
                return True
            return sheets > 0 and any(all(forced(self.next(part, turn), sheets - 1) for turn in turns)
                                      for part in self.parts(lot))

        self.forced = forced

    def value(self, lot):
        for sheets in range(len(self.lots) + 1):
            if self.forced(lot, sheets):
                return sheets
        return -1

    def table(self):
        return tuple([(lot, self.value(lot)) for lot in self.lots])

    def judged(self, rows):
        """What judge_keep answers, if all rows have the form."""
        if rows[0][0] != self.lots[0]:
            return -1
        known = dict(reversed(rows))
        for place, (lot, value) in enumerate(rows):
            if any(number not in self.good for number in lot):
                if value != 0:
                    return place
                continue
            nexts = [[self.next(part, turn) for turn in self.turns] for part in self.parts(lot)]
            if any(follow not in known for follows in nexts for follow in follows):
                return place
            worst = [max(10 ** 50 if known[follow] == -1 else known[follow] for follow in follows) for follows in nexts]
            least = min(worst, default=10 ** 50)
            if value != (-1 if least == 10 ** 50 else least + 1):
                return place
        return None


def good_of(job, page, wish):
    return [k for k, lie in enumerate(job.press.lies) if breach(wish, page, job.shown(lie)) is None]


def random_game(chance):
    """The arguments of Known and of Keep, with few lies."""
    press = random_press(chance)
    while len(press.lies) > 12:
        press = random_press(chance)
    page = random_picture(chance, ("red", "blue"), 2, 3)
    job = plain_book().made(press, page) if chance.random() < 0.5 else random_job(chance, press)
    looks = tuple(chance.sample(LOOKS + ((1, 0),), chance.randint(0, 2)))
    turns = []
    for _ in range(chance.randint(1, 3)):
        turn = random_turn(chance, press, chance.choice((1, 2)))
        if turn not in turns:
            turns.append(turn)
    lies = range(len(press.lies))
    first = (0,) if chance.random() < 0.5 else tuple(sorted(chance.sample(lies, min(len(lies), chance.randint(1, 3)))))
    wish = chance.choice(WISHES)
    if chance.random() < 0.6:
        wish = (("blank", chance.randint(-1, 1), chance.choice((-1, 3, 4)), 2, 2),)
    return job, looks, tuple(turns), page, wish, chance.choice((0, 0, 1)), first


class KnownTest(unittest.TestCase, Checks):
    def setUp(self):
        self.press = two_press(((0, 0, 1, 2),))
        self.page = Picture(((0, 0, "red"), (0, 1, "blue")))
        self.job = plain_book().made(self.press, self.page)
        # The lies 0 to 3 are those with 0, -1, 1 and 2 columns.

    def test_a_small_one(self):
        known = Known(self.job, listed(LOOKS[:2]), [[[0, 0]], [[0, -1]]])
        self.assertEqual((known.job, known.looks, known.turns, known.pace), (self.job, LOOKS[:2], (STILL, BACK), 1))
        self.assertEqual(known.table[:4], ((0,), (0, 1, 2), (0, 1), (0, 2, 3)))
        self.assertEqual((len(known), tuple(known)), (len(known.table), known.table))
        self.assertEqual(known.parts(1), ((0,), (1,), (2,)))
        self.assertEqual(known.parts(3), ((0,), (2, 3)))
        self.assertEqual([known.after(1, part, turn) for part in range(3) for turn in range(2)], [1, 2, 2, 2, 3, 1])
        self.assert_tuples((known.table, known.parts(1)))
        blind = Known(self.job, (), (STILL,), pace=2, first=[0, 3])
        self.assertEqual((blind.table, blind.parts(0)), (((0, 3), (0, 1, 2, 3)), ((0, 3),)))
        self.assertEqual((blind.pace, blind.after(0, 0, 0), blind.after(1, 0, 0)), (2, 1, 1))
        self.assertEqual(Known(self.job, (), (BACK,), pace=0).table, ((0,), (1,)))

    def test_numbers_that_are_none(self):
        known = Known(self.job, LOOKS[:2], (STILL, BACK))
        for thing in (-1, len(known.table), True, None, "0", (0,), 1.0):
            self.assert_error(NoLot, {"number": thing}, known.parts, thing)
            self.assert_error(NoLot, {"number": thing}, known.after, thing, 9, 9)
        for thing in (-1, 3, False, None, "0", ((0,),)):
            self.assert_error(NoPart, {"number": thing}, known.after, 1, thing, 9)
        for thing in (-1, 2, True, None, BACK):
            self.assert_error(NoPart, {"number": thing}, known.after, 1, 2, thing)

    def errors(self, call, *told):
        """The errors of Known, in order, for a call with what stands behind the turns."""
        turns = (STILL, BACK)
        for thing in (None, 3, "ab", {}, tuple([(0, k) for k in range(7)])):
            self.assert_error(BadLooks, {"number": -1}, call, self.job, thing, None, *told, pace=9, first=())
        for thing in (None, (0,), (0, True), (0, 0), [0, 0]):
            self.assert_error(BadLooks, {"number": 1}, call, self.job, ((0, 0), thing, None), None, *told, pace=9, first=())
        nine = tuple([((0, 0), (0, k % 3)) for k in range(9)])
        for thing in (None, (), 3, "ab", {}, nine):
            self.assert_error(BadTurns, {"number": -1}, call, self.job, (), thing, *told, pace=9, first=())
        for thing in (None, 3, "a", (), ((0,),), ((0, 0, 0),), ((0, 4),), ((-4, 0),), ((0, True),), ((0, None),), (0, 0), (STILL * 2),
                      STILL, [[0, 0]], ((0, 1), (0, 1))):
            self.assert_error(BadTurns, {"number": 1}, call, self.job, (), (STILL, thing, None), *told, pace=9, first=())
        for thing in (-1, 3, True, None, "1", 1.0):
            self.assert_error(BadPace, {"pace": thing}, call, self.job, (), turns, *told, pace=thing, first=())
        for thing in (None, (), [], 0, "0", {}, (4,), (-1,), (1, 0), (0, 0), (True,), (0, True), [False], (None,), ((0,),), (0, 1, 2, 3, 4)):
            self.assert_error(BadLot, {"lot": thing}, call, self.job, (), turns, *told, first=thing)

    def test_errors(self):
        self.errors(Known)
        eight = tuple([((0, k - 3),) for k in range(7)]) + (((1, 0),),)
        self.assertEqual(len(Known(self.job, (), eight, pace=0).turns), 8)
        self.assert_error(BadTurns, {"number": -1}, Known, self.job, (), (*eight, ((2, 0),)))
        self.assertEqual(Known(self.job, tuple([(0, k) for k in range(6)]), (((3, -3),),), first=(0, 1, 2, 3)).table[0], (0, 1, 2, 3))
        bare = two_press((), (0, 0))
        self.assertEqual(Known(Job(bare, (Plate(), Plate())), (), ((),)).table, ((0,),))
        self.assert_error(BadTurns, {"number": 1}, Known, Job(bare, (Plate(), Plate())), (), ((), ()))

    def test_300_and_301_lots(self):
        job = Job(two_press(((2, 2, 2, 2),)), (Plate(((0, 3),)), Plate(((0, 0), (1, 2)))))
        turns = (((1, -1),), ((-1, 0),), ((0, 2),))
        known = Known(job, ((0, 1),), turns, first=(5,))
        self.assertEqual((len(known), known.table[0]), (300, (5,)))
        self.assertEqual(known.table, tuple(Game(job, ((0, 1),), turns, 1, (5,), ()).lots))
        wish = (("never", "tan"),)
        self.assertTrue(Keep(known, Picture(), wish))
        self.assert_error(TooMany, {"word": "lot"}, Known, job, ((0, 1),), turns, first=(13,))
        self.assertEqual(len(Game(job, ((0, 1),), turns, 1, (13,), ()).lots), 301)
        self.assert_error(TooMany, {"word": "lot"}, LeastSights, job, ((0, 1),), turns, Picture(), wish, first=(13,))
        # Tables are judged all the same.
        table = [(lot, -1) for lot in Game(job, ((0, 1),), turns, 1, (13,), ()).lots]
        self.assertIsNone(judge_keep(job, ((0, 1),), turns, Picture(), wish, table, first=(13,)))
        self.assertEqual(judge_keep(job, ((0, 1),), turns, Picture(), wish, table[:-1], first=(13,)) is None, False)

    def test_against_plain_ways(self):
        chance = rng(561)
        many = 0
        for _ in range(150):
            job, looks, turns, page, wish, pace, first = random_game(chance)
            game = Game(job, looks, turns, pace, first, ())
            known = Known(job, looks, turns, pace=pace, first=first)
            self.assertEqual(known.table, tuple(game.lots))
            many = max(many, len(known))
            for number in chance.sample(range(len(known)), min(4, len(known))):
                parts = game.parts(known.table[number])
                self.assertEqual(known.parts(number), parts)
                for part, turn in itertools.product(range(len(parts)), range(len(turns))):
                    follow = game.next(parts[part], turns[turn])
                    self.assertEqual(known.table[known.after(number, part, turn)], follow)
        self.assertGreater(many, 8)

    def test_asked_by_turns(self):
        one, other = Known(self.job, LOOKS[:2], (STILL, BACK)), Known(self.job, (), (ON,), first=(1,))
        told = [(one.table, other.table, one.parts(1), other.parts(0), one.after(1, 2, 1), other.after(0, 0, 0)) for _ in range(2)]
        self.assertEqual(told[0], told[1])

    def test_lists_are_kept(self):
        looks, turns, first = [[0, 0], [0, 1]], [[[0, 0]], [[0, -1]]], [0]
        known = Known(self.job, looks, turns, first=first)
        looks[0][0] = 5
        turns[0][0][0] = 3
        turns.pop()
        first.append(1)
        self.assertEqual((known.looks, known.turns, known.table[0]), (LOOKS[:2], (STILL, BACK), (0,)))
        self.assert_tuples((known.looks, known.turns))
        self.assertEqual(known.after(1, 2, 1), 1)


class KeepTest(unittest.TestCase, Checks):
    def setUp(self):
        self.press = two_press(((0, 0, 1, 2),))
        self.page = Picture(((0, 0, "red"), (0, 1, "blue")))
        self.job = plain_book().made(self.press, self.page)
        # At the lie with the number 3, blue comes too far to the right.
        self.wish = (("blank", 0, 3, 1, 1),)
        self.turns = (STILL, BACK)

    def keep(self, looks=LOOKS[:2], turns=None, **more):
        return Keep(Known(self.job, looks, turns or self.turns, **more), self.page, self.wish)

    def test_a_lot_that_is_kept(self):
        keep = self.keep()
        self.assertTrue(keep)
        self.assertEqual(keep.table[:4], (((0,), -1), ((0, 1, 2), -1), ((0, 1), -1), ((0, 2, 3), 0)))
        self.assertEqual((len(keep), tuple(keep)), (len(keep.table), keep.table))
        self.assert_tuples(keep.table)
        self.assertEqual([keep.value(k) for k in range(4)], [-1, -1, -1, 0])
        # With blue two columns off from yellow, the hand has to turn back.
        self.assertEqual([keep.plan(1, part) for part in range(3)], [0, 0, 1])
        self.assertEqual((keep.plan(3, 0), keep.attack(0), keep.attack(3)), (None, None, None))

    def test_a_lot_that_is_not_kept(self):
        keep = self.keep(turns=(ON, STILL))
        self.assertFalse(keep)
        table = dict(keep.table)
        self.assertEqual((table[(0,)], table[(0, 1, 2)], table[(0, 2, 3)]), (2, 1, 0))
        self.assertEqual((keep.attack(0), keep.value(0)), (0, 2))
        number = keep.table.index(((0, 1, 2), 1))
        self.assertEqual((keep.attack(number), [keep.plan(number, part) for part in range(3)]), (2, [None] * 3))
        blind = self.keep(())
        self.assertTrue(blind)
        self.assertEqual((blind.table[:2], blind.plan(0, 0)), ((((0,), -1), ((0, 1, 2), -1)), 0))
        self.assertFalse(self.keep((), first=(0, 3)))
        self.assertEqual(self.keep((), first=(0, 3)).value(0), 0)

    def test_errors(self):
        known = Known(self.job, LOOKS[:2], self.turns)
        for thing in (None, 3, "ab", (), self.wish * 7, {}):
            self.assert_error(BadWish, {"number": -1}, Keep, known, self.page, thing)
        for thing in (None, "true", ("never", "white"), ()):
            self.assert_error(BadWish, {"number": 1}, Keep, known, self.page, (*self.wish, thing, None))
        keep = self.keep()
        for thing in (-1, len(keep), True, None, "0", (0,)):
            self.assert_error(NoLot, {"number": thing}, keep.value, thing)
            self.assert_error(NoLot, {"number": thing}, keep.plan, thing, 9)
            self.assert_error(NoLot, {"number": thing}, keep.attack, thing)
        for number in (1, 3):
            for thing in (-1, 3, False, None, "0", (0,)):
                self.assert_error(NoPart, {"number": thing}, keep.plan, number, thing)

    def test_against_plain_ways(self):
        chance = rng(563)
        met = {"kept": 0, "bad": 0, "later": 0}
        for _ in range(250):
            job, looks, turns, page, wish, pace, first = random_game(chance)
            good = good_of(job, page, wish)
            game = Game(job, looks, turns, pace, first, good)
            known = Known(job, looks, turns, pace=pace, first=first)
            keep = Keep(known, page, listed(wish))
            self.assertEqual(keep.table, game.table())
            values = dict(game.table())
            self.assertIs(bool(keep), values[first] == -1)
            met["kept" if keep else "bad" if values[first] == 0 else "later"] += 1
            for number, (lot, value) in enumerate(keep.table):
                self.assertEqual(keep.value(number), value)
                parts = game.parts(lot)
                nexts = [[values[game.next(part, turn)] for turn in turns] for part in parts]
                for part, follows in enumerate(nexts):
                    self.assertEqual(keep.plan(number, part), follows.index(-1) if value == -1 else None)
                lower = [part for part, follows in enumerate(nexts) if all(-1 < follow < value for follow in follows)]
                self.assertEqual(keep.attack(number), lower[0] if value > 0 else None)
            if keep:
                self.play(chance, game, known, keep)
        self.assertGreater(min(met.values()), 10)

    def play(self, chance, game, known, keep):
        """The plan keeps all sheets good, wherever the press drifts."""
        number, lie = 0, chance.choice(game.lots[0])
        for _ in range(8):
            self.assertIn(lie, game.good)
            parts = known.parts(number)
            part = [k for k, told in enumerate(parts) if lie in told][0]
            turn = keep.plan(number, part)
            lie = chance.choice(game.next((lie,), game.turns[turn]))
            number = known.after(number, part, turn)
            self.assertIn(lie, known.table[number])

    def test_asked_by_turns(self):
        one, other = self.keep(), self.keep(turns=(ON, STILL))
        told = [(one.table, other.table, one.plan(1, 2), other.attack(0), one.value(3), other.value(0)) for _ in range(2)]
        self.assertEqual(told[0], told[1])


class JudgeKeepTest(unittest.TestCase, Checks):
    def setUp(self):
        KeepTest.setUp(self)
        self.table = Keep(Known(self.job, LOOKS[:2], self.turns), self.page, self.wish).table

    def judge(self, rows, **more):
        return judge_keep(self.job, LOOKS[:2], self.turns, self.page, self.wish, rows, **more)

    def test_right_tables(self):
        self.assertIsNone(self.judge(self.table))
        self.assertIsNone(self.judge(listed(self.table)))
        self.assertIsNone(self.judge((*self.table, *self.table[::-1])))
        self.assertIsNone(self.judge((self.table[0], *self.table[::-1])))
        # Values that differ from part to part: the least one counts.
        self.turns = (ON, STILL)
        table = Keep(Known(self.job, LOOKS[:2], self.turns), self.page, self.wish).table
        self.assertEqual((dict(table)[(0,)], dict(table)[(0, 1, 2)]), (2, 1))
        self.assertIsNone(self.judge(table))
        self.turns = (STILL, BACK)
        six = tuple([(0, k) for k in range(6)])
        table = Keep(Known(self.job, six, self.turns), self.page, self.wish).table
        self.assertIsNone(judge_keep(self.job, six, self.turns, self.page, self.wish, table))
        # More lots than are needed, if their next ones are there; and the lot without lies.
        self.assertIsNone(self.judge((*self.table, ((2, 3), 0), ((3,), 0), ((), -1))))

    def test_wrong_as_a_whole(self):
        first = self.table[0]
        for thing in (None, 3, "ab", {}, (), self.table[1:], (None, *self.table), ((first,), *self.table), ("ab", *self.table),
                      ((*first, 0), *self.table), (((0,),), *self.table), ((), *self.table), (((False,), -1), *self.table[1:]), (((0, 1), -1), *self.table), (first[0], *self.table),
                      (((0.0,), -1), *self.table)):
            self.assertEqual(self.judge(thing), -1)
        # A first row that begins with the first lot is wrong in its place, whatever stands behind it.
        for thing in (None, 1, "x", -2, True, (), 0, -1.0):
            self.assertEqual(self.judge((((0,), thing), *self.table)), 0)
        self.assertEqual(self.judge((((0,), None),)), 0)
        self.assertEqual(self.judge(self.table, first=(0, 1)), -1)
        self.assertIsNone(self.judge((((0, 1), -1), *self.table), first=[0, 1]))

    def test_rows_that_have_not_the_form(self):
        for row in (None, 3, "ab", (), ((0,),), ((0,), -1, 0), (0, -1), ("0", -1), ((4,), 0), ((-1,), 0), ((1, 0), -1), ((0, 0), -1),
                    ((True,), -1), ((0, True), -1), ((0,), True), ((0,), None), ((0,), -2), ((0,), "0"), ((None,), 0), (((0,),), 0)):
            self.assertEqual(self.judge((*self.table, row)), len(self.table), row)
            self.assertEqual(self.judge((self.table[0], listed(row), *self.table[1:])), 1)
        # They stand for nothing: the first row with a form counts, also for the first lot, which leads to that one alone.
        self.turns = (BACK,)
        table = Keep(Known(self.job, LOOKS[:2], self.turns), self.page, self.wish).table
        self.assertEqual(table[:2], (((0,), -1), ((0, 1), -1)))
        for value in (-2, True, None, "5"):
            self.assertEqual(self.judge((table[0], ((0, 1), value), *table[1:])), 1)
        self.turns = (ON,)
        table = Keep(Known(self.job, LOOKS[:2], self.turns), self.page, self.wish).table
        self.assertEqual(table[:2], (((0,), 1), ((0, 2, 3), 0)))
        for value in (-2, -3, False, None):
            self.assertEqual(self.judge((table[0], ((0, 2, 3), value), *table[1:])), 1)

    def test_the_first_row_of_a_lot_counts(self):
        wrong = ((0, 1, 2), 5)
        self.assertEqual(self.judge((*self.table, wrong)), len(self.table))
        self.assertEqual(self.judge((self.table[0], wrong, *self.table[1:])), 1)
        # Here the wrong one counts for the first lot, which leads to it alone.
        self.turns = (BACK,)
        self.table = Keep(Known(self.job, LOOKS[:2], self.turns), self.page, self.wish).table
        self.assertEqual(self.table[:2], (((0,), -1), ((0, 1), -1)))
        self.assertEqual(self.judge((self.table[0], ((0, 1), 5), *self.table[1:])), 0)
        self.assertEqual(self.judge((((0,), 6), ((0, 1), 5), *self.table[1:])), 1)

    def test_errors(self):
        KnownTest.errors(self, judge_keep, self.page, self.wish, None)
        for thing in (None, (), "ab"):
            self.assert_error(BadWish, {"number": -1}, judge_keep, self.job, (), self.turns, self.page, thing, None, pace=9, first=())
            self.assert_error(BadTurns, {"number": -1}, judge_keep, self.job, (), None, self.page, thing, None, pace=9, first=())
        self.assert_error(BadWish, {"number": 0}, judge_keep, self.job, (), self.turns, self.page, ("true",), None, pace=9)
        self.assert_error(BadPace, {"pace": 9}, judge_keep, self.job, (), self.turns, self.page, self.wish, None, pace=9, first=())

    def test_against_plain_ways(self):
        chance = rng(565)
        answers = set()
        for _ in range(200):
            job, looks, turns, page, wish, pace, first = random_game(chance)
            game = Game(job, looks, turns, pace, first, good_of(job, page, wish))
            table = game.table()

            def judge(rows):
                return judge_keep(job, looks, turns, page, wish, rows, pace=pace, first=first)

            self.assertIsNone(judge(table))
            rest = list(table[1:]) * 2
            chance.shuffle(rest)
            self.assertIsNone(judge([table[0], *rest]))
            for _ in range(4):
                rows = list(table)
                at = chance.randrange(len(rows))
                deed = chance.randint(0, 3)
                if deed == 0 and len(rows) > 1:
                    rows.pop(at)
                elif deed == 1:
                    rows[at] = (rows[at][0], chance.choice([value for value in (-1, 0, 1, 2, 3) if value != rows[at][1]]))
                elif deed == 2:
                    lies = range(len(job.press.lies))
                    lot = tuple(sorted(chance.sample(lies, chance.randint(1, min(4, len(lies))))))
                    rows.insert(chance.randint(1, len(rows)), (lot, chance.choice((-1, 0, 1))))
                else:
                    rows.insert(at, (rows[at][0], chance.choice((-1, 0, 1))))
                self.assertEqual(judge(rows), game.judged(rows))
                answers.add(judge(rows))
        self.assertLessEqual({None, -1, 0, 1, 2}, answers)


class LeastSightsTest(unittest.TestCase, Checks):
    def setUp(self):
        KeepTest.setUp(self)

    def sights(self, looks, turns=None, **more):
        return LeastSights(self.job, looks, turns or self.turns, self.page, self.wish, **more)

    def test_two_looks_are_needed(self):
        # With one column to either side all is well, but not with two; so the hand has to know all three lies.
        job = plain_book().made(SWAYING, self.page)
        looks, turns = ((0, 0), (0, 1), (0, 2)), (BACK, STILL, ON)
        told = LeastSights(job, looks, turns, self.page, SWAYED)
        self.assertTrue(told)
        self.assertEqual((tuple(told), len(told)), (((0, 1), (0, 2), (1, 2)), 3))
        self.assertEqual(told.table, (((), 2), ((0,), 2), ((1,), 2), ((2,), 2), ((0, 1), -1), ((0, 2), -1), ((1, 2), -1),
                                      ((0, 1, 2), -1)))
        self.assert_tuples(told.table)
        self.assertFalse(LeastSights(job, looks, turns[:2], self.page, SWAYED))
        self.assertFalse(LeastSights(job, looks, turns, self.page, SWAYED, pace=2))
        self.assertEqual(LeastSights(job, looks, turns, self.page, SWAYED, pace=0).table[0], ((), -1))
        self.assertEqual(LeastSights(job, looks[:1], turns, self.page, SWAYED, first=(0, 4)).table, (((), 0), ((0,), 0)))

    def test_what_can_be_asked(self):
        told = self.sights(((0, 0), (9, 9)))
        self.assertEqual((told.table, tuple(told), len(told)), ((((), -1), ((0,), -1), ((1,), -1), ((0, 1), -1)), ((),), 1))
        for thing in ((), [], [0], (0, 1)):
            self.assertIs(thing in told, True)
        for thing in [odd for odd in ODD if odd not in ((), [])] + [(1, 0), (2,), (True,), [False, 1], "0", (0, 0), {0: 1}]:
            self.assertIs(thing in told, False)
        none = self.sights(((0, 0),), (ON,))
        self.assertFalse(none)
        self.assertEqual((len(none), list(none), () in none, (0,) in none), (0, [], False, False))
        self.assertEqual(none.table, (((), 1), ((0,), 1)))

    def test_errors(self):
        KnownTest.errors(self, LeastSights, self.page, self.wish)
        five = tuple([(0, k) for k in range(5)])
        self.assertEqual(len(self.sights(five[:4]).table), 16)
        self.assert_error(BadLooks, {"number": -1}, LeastSights, self.job, five, None, self.page, None)
        self.assert_error(BadWish, {"number": -1}, LeastSights, self.job, (), self.turns, self.page, None, pace=9)
        with mock.patch("strayplates.known.Finding", side_effect=Finding) as finding:
            self.sights(())
        self.assertEqual(finding.call_args.args[1:], (300, "lot"))

    def test_against_keep(self):
        chance = rng(567)
        met = {"some": 0, "none": 0, "every": 0}
        for _ in range(150):
            job, _, turns, page, wish, pace, first = random_game(chance)
            if chance.random() < 0.4:
                page = Picture(((0, 0, "red"), (0, 1, "blue")))
                job, wish, pace = plain_book().made(SWAYING, page), SWAYED, chance.randint(0, 1)
                turns, first = tuple(chance.sample((BACK, STILL, ON), 3)), chance.choice(((0,), (1,), (0, 1)))
            menu = tuple(chance.sample(LOOKS + ((1, 0), (7, 7)), chance.randint(0, 4)))
            told = LeastSights(job, listed(menu), turns, page, wish, pace=pace, first=first)
            expected = []
            for lot in lots(len(menu)):
                known = Known(job, [menu[k] for k in lot], turns, pace=pace, first=first)
                expected.append((lot, Keep(known, page, wish).value(0)))
            self.assertEqual(told.table, tuple(expected))
            enough = [lot for lot, value in expected if value == -1]
            self.assertIs(bool(told), tuple(range(len(menu))) in enough)
            self.assertEqual(tuple(told), tuple([lot for lot in enough if not any(set(part) < set(lot) for part in enough)]))
            for lot in lots(len(menu)):
                self.assertIs(lot in told, lot in enough)
            met["none" if not enough else "every" if () in enough else "some"] += 1
        self.assertGreater(min(met["none"], met["every"]), 20)
        self.assertGreater(met["some"], 5)


if __name__ == "__main__":
    unittest.main()
