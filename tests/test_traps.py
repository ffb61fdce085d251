import itertools
import unittest

from strayplates.claims import breach
from strayplates.errors import BadAims, BadLooks, BadLot, BadMenu, BadTrap, BadWish, NoColour, NoLie, NoUnit
from strayplates.job import Job
from strayplates.looks import Looks
from strayplates.picture import Picture
from strayplates.plate import Plate
from strayplates.press import Press
from strayplates.shelf import Shelf
from strayplates.traps import Traps, _first_meeting, judge_traps, spread
from strayplates.words import neighbours
from tests.test_verdict import random_job
from tests.tools import ODD, ROSE, SKY, SUN, Checks, listed, lots, plain_book, random_picture, rng, two_press

SHUT = ("shut", "across", "yellow", "blue", 1)
PAGE = Picture(((0, 0, "red"), (0, 1, "blue")))
WISHES = ((SHUT,), (("never", "green"),), (SHUT, ("never", "green")), (("thick", "across", "yellow", 2),), (("true",),),
          (("narrow", "across", "green", 1), ("thick", "across", "white", 2)), (("blank", 0, 2, 1, 3), SHUT), (("holes",),))


def added(job, trap):
    plates = list(job.plates)
    for number, row, column in trap:
        plates[number] = Plate(sorted([*plates[number], (row, column)]))
    return Job(job.press, plates)


def parts(menu):
    return [tuple([menu[k] for k in lot]) for lot in lots(len(menu))]


def random_menu(chance, job, most):
    cells = [(number, row, column) for number in range(len(job.plates)) for row in range(2) for column in range(4)
             if (row, column) not in job.plates[number]]
    return tuple(sorted(chance.sample(cells, min(len(cells), chance.randint(0, most)))))


def spread_menu(job, page):
    return spread(job, page, 0, "blue") + spread(job, page, 1, "red")


class SpreadTest(unittest.TestCase, Checks):
    def test_a_small_job(self):
        job = plain_book().made(two_press(), PAGE)
        self.assertEqual(spread(job, PAGE, 0, "blue"), ((0, 0, 1),))
        self.assertEqual(spread(job, PAGE, 1, "red"), ((1, 0, 0),))
        self.assertEqual(spread(job, PAGE, 0, "red"), ())
        self.assertEqual(spread(job, PAGE, 0, "tan"), ())
        self.assertEqual(spread(job, PAGE, 1, "white"), ((1, -1, 1), (1, 0, 2), (1, 1, 1)))
        self.assert_tuples(spread(job, PAGE, 1, "white"))

    def test_any_number(self):
        job = Job(two_press(), (Plate.block(0, 0, 10, 20), Plate()))
        self.assertEqual(len(spread(job, Picture(), 0, "white")), 60)
        self.assertEqual(spread(job, Picture(), 1, "white"), ())

    def test_errors(self):
        job = plain_book().made(two_press(), PAGE)
        for thing in ODD + (2, -2):
            if type(thing) is not int or thing not in (0, 1):
                self.assert_error(NoUnit, {"number": thing}, spread, job, PAGE, thing, "Red")
        for thing in (None, 1, "", "Red", "abcdefghi", ("red",), ["red"], True):
            self.assert_error(NoColour, {"colour": thing}, spread, job, PAGE, 0, thing)

    def test_against_all_cells(self):
        chance = rng(107)
        for _ in range(60):
            job, page = random_job(chance, two_press()), random_picture(chance, ("red", "blue"), 4, 5)
            number, colour = chance.randint(0, 1), chance.choice(("red", "blue", "white"))
            cells = [cell for cell in itertools.product(range(-2, 6), range(-2, 7)) if page[cell] == colour]
            plate = job.plates[number]
            told = [(number, *cell) for cell in cells if cell not in plate
                    and any(other in plate for other in neighbours(cell))]
            self.assertEqual(spread(job, page, number, colour), tuple(told))


class TrapsTest(unittest.TestCase, Checks):
    def setUp(self):
        self.job = plain_book().made(two_press(), PAGE)
        self.menu = ((0, 0, 1), (0, 0, 2), (1, 0, 0))

    def traps(self, menu=None, wish=(SHUT,)):
        return Traps(self.job, PAGE, wish, self.menu if menu is None else menu)

    def test_a_small_job(self):
        traps = self.traps()
        one, two, three = self.menu
        self.assertTrue(traps)
        self.assertEqual(traps.table, (
            ((), 1), ((one,), None), ((two,), None), ((three,), None), ((one, two), None), ((one, three), None),
            ((two, three), None), ((one, two, three), None)))
        self.assertEqual((traps.trap, traps.needed, traps.quarrel), ((one,), (), None))
        self.assertEqual((len(traps), tuple(traps)), (8, traps.table))
        self.assert_tuples(traps.table)
        self.assertEqual(self.traps(((0, 0, 1),)).needed, ((0, 0, 1),))

    def test_no_trap(self):
        traps = self.traps(())
        self.assertFalse(traps)
        self.assertEqual((traps.table, traps.trap, traps.needed, traps.quarrel), ((((), 1),), None, (), (1,)))
        # With a plate more to the left, the true lie is spoilt; so each lie is served, but not both.
        none = self.traps(((0, 0, 1),), (("never", "green"), SHUT))
        self.assertEqual((none.table, none.quarrel), ((((), 1), (((0, 0, 1),), 0)), (0, 1)))
        self.assertEqual([none.served(lot) for lot in ((), (0,), (1,), (0, 1))], [(), (), ((0, 0, 1),), None])

    def test_nothing_is_wrong(self):
        traps = self.traps(self.menu[:1], (("never", "tan"),))
        self.assertEqual((traps.trap, traps.needed, traps.quarrel), ((), (), None))
        self.assertIs(bool(traps), True)

    def test_served(self):
        traps = self.traps()
        self.assertEqual(traps.served([0]), ())
        self.assertEqual(traps.served((0, 1)), ((0, 0, 1),))
        self.assert_tuples(traps.served([1]))
        for thing in (None, 0, "0", {}, (2,), (-1,), (1, 0), (0, 0), [True], (0, True), (None,), ((0,),), (0, 1, 2)):
            self.assert_error(BadLot, {"lot": thing}, traps.served, thing)

    def test_done(self):
        traps = self.traps()
        self.assertEqual(traps.done(()), self.job)
        self.assertEqual(traps.done([[0, 0, 1], [1, 0, 0]]), added(self.job, ((0, 0, 1), (1, 0, 0))))
        for thing in (None, 0, "0", {}, (0, 0, 1), ((0, 0, 0),), ((0, 0, 2), (0, 0, 1)), ((0, 0, 1), (0, 0, 1)), ((False, 0, 1),),
                      [[0, 0, True]], ((0, 0, 1, 0),), (None,), ("abc",), ((0, 0, 1), None), (0,), ((1, 0, 1),)):
            self.assert_error(BadTrap, {"trap": thing}, traps.done, thing)

    def test_wishes_and_menus(self):
        for call, told in ((Traps, ()), (judge_traps, (None,))):
            for thing in (None, (), "ab", ("true",) * 7, 3):
                self.assert_error(BadWish, {"number": -1}, call, self.job, PAGE, thing, None, *told)
            self.assert_error(BadWish, {"number": 1}, call, self.job, PAGE, (SHUT, None, SHUT), None, *told)
            nine = tuple([(0, 1, k) for k in range(9)])
            for thing in (None, 3, "ab", {}, nine, (None,) * 9):
                self.assert_error(BadMenu, {"number": -1}, call, self.job, PAGE, (SHUT,), thing, *told)
            for thing in (None, 3, "abc", (), (0, 1), (0, 1, 2, 3), (2, 0, 0), (-1, 0, 0), (True, 1, 0), (0, 51, 0), (0, 2, -51), (0, 2, 51), (0, -51, 2),
                          (0, 2, True), (0, 1, 1.0), (0, 0, 0), (1, 0, 1), (0, 1, 0), (0, 0, 5), ("0", 2, 0), (None, 2, 0)):
                self.assert_error(BadMenu, {"number": 1}, call, self.job, PAGE, (SHUT,), ((0, 1, 0), thing, None), *told)
        traps = self.traps([[0, -50, 50], [0, 50, -50], *[[1, 1, k] for k in range(6)]])
        self.assertEqual((len(traps), traps.table[-1][0][0]), (256, (0, -50, 50)))
        self.assertEqual([len(trap) for trap, _ in traps], [len(lot) for lot in lots(8)])

    def test_lists_are_kept(self):
        menu, wish = listed(self.menu), listed((SHUT,))
        traps = Traps(self.job, PAGE, wish, menu)
        menu[0][2] = 9
        wish[0][0] = "never"
        self.assertEqual((traps.table, traps.served((1,))), (self.traps().table, ((0, 0, 1),)))

    def test_asked_by_turns(self):
        one, other = self.traps(), self.traps(((0, 0, 1),), (("never", "green"), SHUT))
        told = [(one.served((1,)), other.served((0, 1)), one.table, other.done(((0, 0, 1),)).plates[0].cells,
                 one.done(()).plates[0].cells) for _ in range(2)]
        self.assertEqual(told[0], told[1])

    def test_against_all_traps(self):
        chance = rng(109)
        served = quarrels = 0
        for _ in range(150):
            press = two_press(chance.choice((((0, 0, 1, 1),), ((1, 0, 0, 1),), ((0, 0, 0, 1), (0, 0, 1, 0)))), (0, 1))
            job, page = random_job(chance, press), random_picture(chance, ("yellow", "blue"), 2, 4)
            wish, menu = chance.choice(WISHES), random_menu(chance, job, 4)
            if chance.random() < 0.6:
                page = random_picture(chance, ("red", "blue"), 2, 4)
                job, wish = plain_book().made(press, page), (("never", "green"), SHUT)
                menu = tuple(sorted(chance.sample(spread_menu(job, page), min(4, len(spread_menu(job, page))))))
            traps = Traps(job, page, wish, menu)
            lies = range(len(press.lies))
            serving = {trap: [number for number in lies if breach(
                wish, page, added(job, trap).shown(press.lies[number])) is None] for trap in parts(menu)}
            self.assertEqual(traps.table, tuple([(trap, next((number for number in lies if number not in good), None))
                                                 for trap, good in serving.items()]))
            whole = [trap for trap, good in serving.items() if len(good) == len(lies)]
            self.assertIs(bool(traps), bool(whole))
            self.assertEqual(traps.trap, whole[0] if whole else None)
            needed = [part for part in menu if all(part in trap for trap in whole)] if whole else []
            self.assertEqual(traps.needed, tuple(needed))
            for trap in serving:
                self.assertEqual(traps.done(trap), added(job, trap))
            lot = next((lot for lot in lots(len(lies)) if not any(set(lot) <= set(good) for good in serving.values())), None)
            self.assertEqual(traps.quarrel, lot)
            for _ in range(5):
                lot = tuple(sorted(chance.sample(list(lies), chance.randint(0, len(lies)))))
                first = next((trap for trap, good in serving.items() if set(lot) <= set(good)), None)
                self.assertEqual(traps.served(lot), first)
            served += bool(whole)
            quarrels += not whole and len(traps.quarrel) > 1
            if not whole:
                self.check_judge(chance, job, page, wish, menu, traps.table)
        self.assertGreater(served, 20)
        self.assertGreater(quarrels, 10)

    def check_judge(self, chance, job, page, wish, menu, table):
        rows = list(table)
        chance.shuffle(rows)
        self.assertIsNone(judge_traps(job, page, wish, menu, listed(rows + rows)))
        at = chance.randrange(len(rows))
        self.assertEqual(judge_traps(job, page, wish, menu, rows[:at] + rows[at + 1:]), -1)
        trap, number = rows[at]
        for lie in range(len(job.press.lies)):
            serves = breach(wish, page, added(job, trap).shown(job.press.lies[lie])) is None
            told = judge_traps(job, page, wish, menu, (*rows[:at], (trap, lie), *rows[at + 1:]))
            self.assertEqual(told, at if serves else None)


class QuarrelTest(unittest.TestCase, Checks):
    def test_many_lies(self):
        """Each trap fails at lies of its own; the quarrel is the first of the smallest lots that meets them all."""
        chance = rng(113)
        for _ in range(300):
            most = chance.randint(2, 8)
            rows = [tuple(sorted(chance.sample(range(most), chance.randint(1, min(4, most)))))
                    for _ in range(chance.randint(1, 9))]
            told = next(lot for lot in lots(most) if all(set(lot) & set(row) for row in rows))
            self.assertEqual(_first_meeting(rows), told)
        self.assertEqual(_first_meeting([(k,) for k in range(250)]), tuple(range(250)))
        self.assertEqual(_first_meeting([(k, k + 1) for k in range(0, 100, 2)]), tuple(range(0, 100, 2)))


class JudgeTrapsTest(unittest.TestCase, Checks):
    def setUp(self):
        self.job = plain_book().made(two_press(), PAGE)
        self.wish = (("never", "green"), SHUT)
        self.menu = ((0, 0, 1), (0, 3, 3))
        self.table = Traps(self.job, PAGE, self.wish, self.menu).table

    def judge(self, rows):
        return judge_traps(self.job, PAGE, self.wish, self.menu, rows)

    def test_wrong_as_a_whole(self):
        self.assertIsNone(self.judge(self.table))
        for thing in (None, 3, "ab", {}, (), self.table[1:], self.table[:-1], (None,) * 4):
            self.assertEqual(self.judge(thing), -1)

    def test_rows_that_have_not_the_form(self):
        trap, number = self.table[1]
        for row in (None, (), "ab", (trap,), (trap, number, 0), (trap, None), (trap, 2), (trap, -1), (trap, True), (trap, "0"),
                    (None, 0), ((0, 0, 1), 0), (((0, 0, 2),), 0), (((0, 3, 3), (0, 0, 1)), 0), (((False, 0, 1),), 0), (0, 0)):
            self.assertEqual(self.judge((*self.table, row)), 4)
            self.assertEqual(self.judge((row, *self.table)), 0)
            # It stands for nothing, so that the trap has no row.
            self.assertEqual(self.judge((self.table[0], row, *self.table[2:])), -1)

    def test_rows_that_are_wrong(self):
        for at, (trap, number) in enumerate(self.table):
            wrong = (*self.table[:at], (trap, 1 - number), *self.table[at + 1:])
            self.assertEqual(self.judge(wrong), at)
            self.assertEqual(self.judge((*self.table, (trap, 1 - number), None)), 4)

    def test_a_menu_with_a_trap_that_serves(self):
        self.assertEqual(judge_traps(self.job, PAGE, (SHUT,), ((0, 0, 1),), (((), 1),)), -1)
        for number in (0, 1):
            self.assertEqual(judge_traps(self.job, PAGE, (SHUT,), ((0, 0, 1),), (((), 1), (((0, 0, 1),), number))), 1)


class LooksTest(unittest.TestCase, Checks):
    def setUp(self):
        self.press = two_press(((0, 0, 1, 1),))
        self.job = Job(self.press, (Plate(((0, 0),)), Plate(((0, 1), (0, 2)))))

    def test_a_small_job(self):
        # At the lies 0, -1, 1 the row shows: yellow blue blue; green blue; yellow white blue blue.
        cells = ((0, 2), (0, 1), (0, 0), (9, 9))
        looks = Looks(self.job, cells)
        self.assertTrue(looks)
        self.assertEqual([looks.sight(number) for number in range(3)], [
            ("blue", "blue", "yellow", "white"), ("white", "blue", "green", "white"), ("blue", "white", "yellow", "white")])
        self.assertEqual(looks.lot, (0, 1))
        self.assertEqual(looks.table, (((), (0, 1)), ((0,), (0, 2)), ((1,), (0, 1)), ((2,), (0, 2)), ((3,), (0, 1))))
        self.assertEqual((len(looks), tuple(looks)), (5, looks.table))
        self.assert_tuples((looks.table, looks.lot, looks.sight(0)))

    def test_aims(self):
        cells = [[0, 2], [0, 1]]
        for aims, lot, table in (((5, -1, 5), (0,), (((), (0, 1)),)), ((1, 1, 0), (1,), (((), (0, 2)), ((0,), (0, 2)))),
                                 ((0, 0, 0), (), ()), ([1, 2, 2], (0, 1), (((), (0, 1)), ((0,), (0, 2)), ((1,), (0, 1))))):
            looks = Looks(self.job, cells, aims)
            if lot == (1,):
                table = table[:1]
            self.assertEqual((looks.lot, looks.table), (lot, table))
        self.assertEqual(Looks(self.job, cells, aims=None).lot, (0, 1))

    def test_looks_that_do_not_tell(self):
        looks = Looks(self.job, ((0, 0), (9, 9)))
        self.assertFalse(looks)
        self.assertIsNone(looks.lot)
        self.assertEqual(looks.table, (((), (0, 1)), ((0,), (0, 2)), ((1,), (0, 1)), ((0, 1), (0, 2))))
        none = Looks(self.job, ())
        self.assertEqual((none.lot, none.table, none.sight(2)), (None, (((), (0, 1)),), ()))
        still = Job(two_press((), (0, 0)), (Plate(), Plate()))
        self.assertEqual((Looks(still, ()).lot, Looks(still, ()).table), ((), ()))

    def test_wrong_looks(self):
        nine = tuple([(0, k) for k in range(9)])
        for thing in (None, 3, "ab", {}, nine, (None,) * 9):
            self.assert_error(BadLooks, {"number": -1}, Looks, self.job, thing, "aims")
        for thing in (None, 3, (0,), (0, 0, 0), (True, 0), (0, None), "ab", (7, 7), [7, 7], ((0,), 0)):
            self.assert_error(BadLooks, {"number": 1}, Looks, self.job, ((7, 7), thing, None), "aims")
        self.assertEqual(len(Looks(self.job, nine[:8]).sight(0)), 8)
        self.assertEqual(Looks(self.job, ((10 ** 39, -10 ** 39),)).sight(0), ("white",))

    def test_wrong_aims(self):
        for thing in (3, "abc", (), (0, 1), (0, 1, 2, 3), (0, 1, True), [0, 1, None], (0, 1, 2.0), {}, False, ((0,), 1, 2)):
            self.assert_error(BadAims, {"aims": thing}, Looks, self.job, ((0, 0),), thing)

    def test_no_lies(self):
        looks = Looks(self.job, ((0, 0),))
        for thing in ODD + (3, -2, ((0, 1),)):
            if type(thing) is not int or not 0 <= thing < 3:
                self.assert_error(NoLie, {"lie": thing}, looks.sight, thing)

    def test_lists_are_kept(self):
        cells, aims = [[0, 2], [0, 1]], [1, 2, 2]
        looks = Looks(self.job, cells, aims)
        cells[0][0] = 7
        aims[0] = 2
        self.assertEqual((looks.lot, looks.sight(0)), ((0, 1), ("blue", "blue")))

    def test_against_all_pairs(self):
        chance = rng(127)
        told = untold = 0
        for _ in range(150):
            press = Press(Shelf((SUN, SKY, ROSE)), (("sun", 1), ("sky", 2), ("rose", 0)), ((0, 0, 1, 1), (1, 0, 0, 0)))
            job = random_job(chance, press)
            cells = chance.sample(list(itertools.product(range(-1, 3), range(-1, 4))), chance.randint(0, 5))
            many = len(press.lies)
            aims = None if chance.random() < 0.4 else [chance.randint(0, 2) for _ in range(many)]
            rows = []
            for lot in lots(len(cells)):
                pairs = []
                for i, j in itertools.combinations(range(many), 2):
                    one, other = [job.shown(press.lies[number]) for number in (i, j)]
                    alike = all(one[cells[k]] == other[cells[k]] for k in lot)
                    if alike and (aims is None or aims[i] != aims[j]):
                        pairs.append((i, j))
                rows.append((lot, pairs[0] if pairs else None))
            telling = [lot for lot, pair in rows if pair is None]
            looks = Looks(job, cells, aims)
            self.assertEqual(looks.lot, telling[0] if telling else None)
            self.assertIs(bool(looks), rows[-1][1] is None)
            self.assertEqual(looks.table, tuple([row for row in rows if not telling or len(row[0]) < len(telling[0])]))
            told += bool(telling)
            untold += not telling
        self.assertGreater(min(told, untold), 15)


if __name__ == "__main__":
    unittest.main()
