import itertools
import unittest

from strayplates.errors import BadColours, BadOrder, NoInk, Unlike
from strayplates.job import Job
from strayplates.late import LateMix
from strayplates.palette import Palette, ways
from strayplates.plate import Plate
from strayplates.press import Press
from strayplates.shelf import Shelf
from tests.test_stacks import HUES, NAMES, random_shelf
from tests.tools import ODD, ROSE, SKY, SUN, Checks, listed, lots, rng


def told_ways(shelf, order, colour):
    """All ways, found among all tuples of inks."""
    found = []
    for many in range(len(order) + 1):
        for way in itertools.permutations(range(len(shelf)), many):
            places = [order.index(number) for number in way if number in order]
            if len(places) == many and places == sorted(places):
                if shelf.stack([shelf.names[number] for number in way]) == colour:
                    found.append(way)
    return tuple(found)


def all_orders(shelf):
    return [order for many in range(len(shelf) + 1) for order in itertools.permutations(range(len(shelf)), many)]


class WaysTest(unittest.TestCase, Checks):
    def test_a_small_shelf(self):
        shelf = Shelf((SUN, SKY, ("haze", "blue", ())))
        self.assertEqual(ways(shelf, (2, 1, 0), "blue"), ((1,), (2,), (2, 1)))
        self.assertEqual(ways(shelf, (0, 1, 2), "green"), ((0, 1),))
        self.assertEqual(ways(shelf, (1, 0), "green"), ())
        self.assertEqual(ways(shelf, (), "white"), ((),))
        self.assertEqual(ways(shelf, (), "red"), ())
        self.assertEqual(ways(shelf, [2, 0, 1], "green"), ((0, 1), (2, 0, 1)))
        self.assert_tuples(ways(shelf, [2, 0, 1], "blue"))

    def test_wrong_orders(self):
        shelf = Shelf((SUN, SKY))
        for thing in (None, 3, "01", {}, (2,), (-1,), (0, 0), (True,), (0, False), ("sun",), ((0,),), [1, 1], (0, 1, 2), (0.0,)):
            self.assert_error(BadOrder, {"order": thing}, ways, shelf, thing, "red")

    def test_against_all_tuples(self):
        chance = rng(79)
        for _ in range(200):
            shelf = random_shelf(chance)
            order = chance.choice(all_orders(shelf))
            colour = chance.choice((*HUES, "white"))
            self.assertEqual(ways(shelf, order, colour), told_ways(shelf, order, colour))


class PaletteTest(unittest.TestCase, Checks):
    def test_a_small_shelf(self):
        shelf = Shelf((SUN, SKY, ROSE))
        told = Palette(shelf, ("green", "white", "yellow"))
        self.assertTrue(told)
        self.assertEqual(told.order, (0, 1))
        self.assertEqual(told.table, (((), "green"), ((0,), "green"), ((1,), "green"), ((2,), "green")))
        self.assertEqual((len(told), tuple(told)), (4, told.table))
        self.assert_tuples(told.table)
        self.assertEqual(Palette(shelf, ("white",)).order, ())
        self.assertEqual(Palette(shelf, ("white",)).table, ())
        self.assertEqual(len(Palette(shelf, ["white"])), 0)

    def test_wishes_that_no_order_shows(self):
        told = Palette(Shelf((SUN, SKY)), ("green", "tan"))
        self.assertFalse(told)
        self.assertIsNone(told.order)
        self.assertEqual(told.table, (((), "green"), ((0,), "green"), ((1,), "green"), ((0, 1), "tan"), ((1, 0), "green")))

    def test_wrong_wishes(self):
        shelf = Shelf((SUN,))
        for thing in (None, 3, "red", (), {}, {"red"}, tuple("abcdefg"), (None,) * 7):
            self.assert_error(BadColours, {"number": -1}, Palette, shelf, thing)
        for thing in (None, 1, True, "", "Red", ("red",), ["red"], "abcdefghi", "tan"):
            self.assert_error(BadColours, {"number": 1}, Palette, shelf, ("tan", thing, None))
        self.assertFalse(Palette(shelf, tuple("abcdef")))

    def test_lists_are_kept(self):
        wishes = ["green"]
        told = Palette(Shelf((SUN, SKY)), wishes)
        wishes[0] = "tan"
        self.assertEqual(told.table[0], ((), "green"))

    def test_against_all_orders(self):
        chance = rng(83)
        shown = 0
        for _ in range(150):
            shelf = random_shelf(chance)
            wishes = tuple(chance.sample((*HUES, "white"), chance.randint(1, 3)))
            rows = []
            for order in all_orders(shelf):
                missing = [wish for wish in wishes if not told_ways(shelf, order, wish)]
                rows.append((order, missing[0] if missing else None))
            serving = [order for order, wish in rows if wish is None]
            told = Palette(shelf, listed(wishes))
            self.assertEqual(told.order, serving[0] if serving else None)
            self.assertIs(bool(told), bool(serving))
            shut = [row for row in rows if not serving or len(row[0]) < len(serving[0])]
            self.assertEqual(told.table, tuple(shut))
            shown += bool(serving)
        self.assertTrue(30 < shown < 120)

    def test_five_inks(self):
        shelf = Shelf([(name, "red", ()) for name in "abcde"])
        told = Palette(shelf, ("red", "blue"))
        self.assertEqual([order for order, _ in told], all_orders(shelf))
        self.assertEqual({wish for _, wish in told.table[1:]}, {"blue"})
        self.assertEqual(told.table[0], ((), "red"))


GREEN = ("leaf", "green", (("blue", "green"), ("yellow", "green")))
# Inks that leave green as it is, so that leaf ahead of them can be mixed late of them.
MILD = (("leaf", "green", ()), ("sun", "yellow", (("green", "green"),)),
        ("sky", "blue", (("green", "green"), ("yellow", "green"))))


class LateMixTest(unittest.TestCase, Checks):
    def press(self, *inks, passes=None, boxes=()):
        return Press(Shelf(inks), [(ink[0], (passes or {}).get(ink[0], 0)) for ink in inks], boxes)

    def test_a_mix(self):
        press = self.press(*MILD)
        told = LateMix(press, "leaf", "sun", "sky")
        self.assertTrue(told)
        self.assertIsNone(told.lot)
        self.assertEqual(told.press, Press(press.shelf, (("sun", 0), ("sky", 0))))
        job = Job(press, (Plate(((0, 0), (0, 1))), Plate(((0, 2),)), Plate(((0, 1), (0, 3)))))
        mixed = told.mixed(job)
        self.assertEqual(mixed, Job(told.press, (Plate(((0, 0), (0, 1), (0, 2))), Plate(((0, 0), (0, 1), (0, 3))))))
        self.assertEqual(mixed.true_picture, job.true_picture)

    def test_no_mix(self):
        press = self.press(SUN, SKY, GREEN)
        told = LateMix(press, "sky", "sun", "leaf")
        self.assertFalse(told)
        self.assertEqual(told.lot, (1,))
        self.assertEqual(told.press.units, (("sun", 0), ("leaf", 0)))
        # Here leaf over sun and sky is green, but ash over them is not.
        other = self.press(SUN, SKY, ("leaf", "green", ()), ("ash", "black", (("blue", "grey"),)))
        self.assertEqual(LateMix(other, "leaf", "sun", "sky").lot, None)
        later = self.press(SUN, SKY, ("ash", "black", (("green", "grey"),)), ("leaf", "green", (("grey", "brown"),)))
        self.assertEqual(LateMix(later, "leaf", "sun", "sky").lot, (2, 3))

    def test_errors(self):
        press = self.press(SUN, SKY, GREEN)
        for thing in ODD + ("moon", ["sun"]):
            for names in ((thing, None, None), ("leaf", thing, None), ("leaf", "sun", thing), ("sun", "sun", thing)):
                self.assert_error(NoInk, {"name": thing}, LateMix, press, *names)
        bare = Press(Shelf((SUN, SKY, GREEN)), (("sun", 0), ("sky", 0)))
        self.assert_error(NoInk, {"name": "leaf"}, LateMix, bare, "leaf", "sun", "sky")
        for names in (("sun", "sun", "sky"), ("sun", "sky", "sun"), ("leaf", "sky", "sky"), ("sun", "sun", "sun")):
            self.assert_error(Unlike, {"word": "inks"}, LateMix, press, *names)

    def test_jobs_of_other_presses(self):
        press = self.press(*MILD, boxes=((0, 0, 0, 1),))
        told = LateMix(press, "leaf", "sun", "sky")
        self.assertEqual(told.press.boxes, press.boxes)
        plates = (Plate(), Plate(), Plate())
        for other in (self.press(*MILD), self.press(*MILD[1:], MILD[0], boxes=press.boxes), told.press):
            self.assert_error(Unlike, {"word": "press"}, told.mixed, Job(other, plates[:len(other)]))
        self.assertEqual(told.mixed(Job(self.press(*MILD, boxes=[[0, 0, 0, 1]]), plates)),
                         Job(told.press, plates[:2]))

    def test_against_all_lots(self):
        chance = rng(89)
        true = false = 0
        for _ in range(600):
            shelf = random_shelf(chance, 4)
            names = chance.sample(NAMES, chance.randint(3, 4))
            press = Press(shelf, [(name, chance.randint(0, 1)) for name in names], ((0, 1, 0, 1),))
            ink, one, other = chance.sample(names, 3)
            told = LateMix(press, ink, one, other)
            unlike = []
            for lot in lots(len(names)):
                inks = [names[number] for number in lot]
                late = [name for name in names if name in (one, other) or name in inks and name != ink]
                if ink in inks and shelf.stack(inks) != shelf.stack(late):
                    unlike.append(lot)
            self.assertEqual(told.lot, unlike[0] if unlike else None)
            self.assertIs(bool(told), not unlike)
            self.assertEqual(told.press.units, tuple([unit for unit in press if unit[0] != ink]))
            if unlike:
                false += 1
                cell = Plate(((0, 0),))
                job = Job(press, [cell if number in unlike[0] else Plate() for number in range(len(names))])
                self.assertNotEqual(told.mixed(job).true_picture.cells, job.true_picture.cells)
            else:
                true += 1
                self.check_jobs(chance, told, press, {ink, one, other})
        self.assertGreater(min(true, false), 20)

    def check_jobs(self, chance, told, press, inks):
        plates = [Plate([(0, k) for k in range(5) if chance.random() < 0.6]) for _ in press]
        job = Job(press, plates)
        mixed = told.mixed(job)
        self.assertEqual(mixed.true_picture, job.true_picture)
        if len({turn for name, turn in press if name in inks}) == 1:
            for lie in press.lies:
                self.assertEqual(mixed.shown(lie), job.shown(lie))


if __name__ == "__main__":
    unittest.main()
