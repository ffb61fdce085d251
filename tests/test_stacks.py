import itertools
import unittest

from strayplates.errors import NoColour, NoInk, Unlike
from strayplates.shelf import Shelf
from strayplates.shelfpair import ShelfPair, judge_shelves
from strayplates.stacks import Stacks, judge_stacks
from strayplates.swaps import exchange, hides, steady
from tests.tools import ODD, ROSE, SKY, SUN, Checks, listed, rng

NAMES = ("sun", "sky", "rose", "ash")
HUES = ("red", "blue", "green")


def random_shelf(chance, many=None):
    """A shelf of few colours, so that stacks come back to them in many ways."""
    inks = []
    for name in NAMES[:many or chance.randint(1, 4)]:
        over = [(under, chance.choice((*HUES, "white"))) for under in sorted(chance.sample(HUES, chance.randint(0, 3)))]
        inks.append((name, chance.choice(HUES), tuple(over)))
    return Shelf(inks)


def stacks_of(shelf, most):
    """All stacks of at most so many inks, by their length, and then in the order of the inks of the shelf."""
    for many in range(most + 1):
        yield from itertools.product(shelf.names, repeat=many)


def least_stacks(shelf):
    """The seen colours and their least stacks, in the order of finding, of stacks that are tried one by one."""
    found = {}
    for stack in stacks_of(shelf, 5):
        found.setdefault(shelf.stack(stack), stack)
    return found


class StacksTest(unittest.TestCase, Checks):
    def test_the_shelf_of_the_document(self):
        stacks = Stacks(Shelf((SUN, SKY)))
        self.assertEqual(stacks.shelf, Shelf((SUN, SKY)))
        self.assertEqual(stacks.table, (
            ("white", ("yellow", "blue")), ("yellow", ("yellow", "green")), ("blue", ("yellow", "blue")),
            ("green", ("yellow", "blue"))))
        self.assertEqual((len(stacks), tuple(stacks)), (4, stacks.table))
        self.assert_tuples(stacks.table)
        self.assertEqual([stacks.stack_of(colour) for colour, _ in stacks], [(), ("sun",), ("sky",), ("sun", "sky")])

    def test_colours_that_are_not_seen(self):
        stacks = Stacks(Shelf((SUN, ("wash", "black", (("brown", "tan"),)))))
        self.assertIs("black" in stacks, True)
        self.assertIs("white" in stacks, True)
        for thing in ODD + ("brown", "tan", ["black"], ("black",)):
            self.assertIs(thing in stacks, False)
            self.assert_error(NoColour, {"colour": thing}, stacks.stack_of, thing)

    def test_white_over_white(self):
        stacks = Stacks(Shelf((("wash", "red", (("red", "white"),)),)))
        self.assertEqual(stacks.table, (("white", ("red",)), ("red", ("white",))))
        self.assertEqual(stacks.stack_of("white"), ())

    def test_against_all_short_stacks(self):
        chance = rng(61)
        for _ in range(150):
            shelf = random_shelf(chance)
            stacks = Stacks(shelf)
            found = least_stacks(shelf)
            self.assertEqual([(colour, stacks.stack_of(colour)) for colour, _ in stacks], list(found.items()))
            for colour, results in stacks:
                self.assertEqual(results, tuple([shelf.laid(colour, name) for name in shelf.names]))
            # The told stack shows the colour, and none ahead of it does.
            for colour in found:
                ahead = list(itertools.takewhile(lambda told: told != stacks.stack_of(colour), stacks_of(shelf, 5)))
                self.assertNotIn(colour, [shelf.stack(told) for told in ahead])


class JudgeStacksTest(unittest.TestCase, Checks):
    def setUp(self):
        self.shelf = Shelf((SUN, SKY))
        self.table = Stacks(self.shelf).table

    def judge(self, rows):
        return judge_stacks(self.shelf, rows)

    def test_right_tables(self):
        self.assertIsNone(self.judge(self.table))
        self.assertIsNone(self.judge(listed(self.table)))
        for rows in itertools.permutations(self.table[1:]):
            self.assertIsNone(self.judge((self.table[0], *rows)))
        # A colour that is no stack's can have a row, too; so can one that no ink names.
        self.assertIsNone(self.judge((*self.table, ("tan", ("yellow", "blue")))))

    def test_wrong_as_a_whole(self):
        for thing in (None, (), 3, "ab", {}, self.table[1:], (None,), ((),), (("white",),), (("white", (), ()),),
                      ("white", ("yellow", "blue")), (("yellow", ("yellow", "green")), *self.table),
                      (None, *self.table), ("wh", *self.table)):
            self.assertEqual(self.judge(thing), -1)

    def test_a_first_row_with_white(self):
        for thing in (None, (), "ab", 3, ("yellow",), ("yellow", "blue", "blue"), ("yellow", True), ("Yellow", "blue"),
                      ("yellow", "green"), "yellow"):
            self.assertEqual(self.judge((("white", thing), *self.table[1:])), 0)

    def test_a_row_left_out(self):
        for at, row in list(enumerate(self.table))[1:]:
            rows = self.table[:at] + self.table[at + 1:]
            needing = [number for number, (_, results) in enumerate(rows) if row[0] in results]
            self.assertEqual(self.judge(rows), needing[0])

    def test_a_row_spoilt(self):
        for at, (colour, results) in list(enumerate(self.table))[1:]:
            needing = [number for number, row in enumerate(self.table) if colour in row[1]][0]
            # It has the form, and stands for its colour.
            for other in (("blue", "yellow"), ("red", "red"), ("green", "green")):
                self.assertEqual(self.judge((*self.table[:at], (colour, other), *self.table[at + 1:])), at)
            # It has not, and stands for nothing.
            for thing in (None, (colour,), (colour, None), (colour, "ab"), (colour, results[:1]), (colour, (*results, "red")),
                          (colour, (results[0], 1)), (colour, (results[0], "Red")), (colour, results, ()), (1, results),
                          ("Red", results), (None, results), ((colour,), results)):
                rows = (*self.table[:at], thing, *self.table[at + 1:])
                self.assertEqual(self.judge(rows), min(at, needing))

    def test_a_row_put_in(self):
        for row in self.table:
            self.assertEqual(self.judge((*self.table, row)), 4)
            self.assertEqual(self.judge((*self.table[:2], row, *self.table[2:])), 2 if row in self.table[:2] else
                             3 if row == self.table[2] else 4)
        self.assertEqual(self.judge((self.table[0], *self.table)), 1)
        self.assertEqual(self.judge((*self.table, ("tan", ("yellow", "green")))), 4)
        self.assertEqual(self.judge((self.table[0], None, *self.table[1:])), 1)
        for thing in (1, True, "Tan", None, (), ("tan",), "abcdefghi"):
            self.assertEqual(self.judge((*self.table, (thing, ("yellow", "blue")))), 4)

    def test_random_tables(self):
        chance = rng(67)
        for _ in range(200):
            shelf = random_shelf(chance)
            table = Stacks(shelf).table
            rows = [chance.choice(table) for _ in range(chance.randint(0, 5))] + list(table[1:])
            chance.shuffle(rows)
            rows = [table[0], *rows]
            colours = [colour for colour, _ in rows]
            wrong = [number for number in range(len(rows)) if colours[number] in colours[:number]]
            self.assertEqual(judge_stacks(shelf, rows), wrong[0] if wrong else None)


class ShelfPairTest(unittest.TestCase, Checks):
    def test_alike(self):
        # The one shelf names a pair that no stack comes to.
        other = Shelf((SUN, ("sky", "blue", (("tan", "red"), ("yellow", "green")))))
        pair = ShelfPair(Shelf((SUN, SKY)), other)
        self.assertTrue(pair)
        self.assertEqual(pair.table, (("white",) * 2, ("yellow",) * 2, ("blue",) * 2, ("green",) * 2))
        self.assertIsNone(pair.parting)
        self.assertEqual((len(pair), tuple(pair)), (4, pair.table))

    def test_parted(self):
        other = Shelf((SUN, ("sky", "blue", (("green", "blue"), ("yellow", "tan")))))
        pair = ShelfPair(Shelf((SUN, SKY)), other)
        self.assertFalse(pair)
        self.assertEqual(pair.parting, ("sun", "sky"))
        self.assertEqual((pair.table, len(pair), list(pair)), (None, 0, []))
        self.assert_tuples(pair.parting)

    def test_unlike_names(self):
        for first, second in (((SUN, SKY), (SKY, SUN)), ((SUN,), (SUN, SKY)), ((SUN,), (SKY,))):
            for call, told in ((ShelfPair, ()), (judge_shelves, (None,))):
                self.assert_error(Unlike, {"word": "names"}, call, Shelf(first), Shelf(second), *told)

    def test_against_all_short_stacks(self):
        chance = rng(71)
        alike = parted = 0
        for _ in range(400):
            first = random_shelf(chance, chance.randint(1, 3))
            inks = [list(ink) for ink in listed(first.inks)]
            ink = chance.choice(inks)
            if ink[2] and chance.random() < 0.7:
                chance.choice(ink[2])[1] = chance.choice((*HUES, "white"))
            else:
                ink[2] = [pair for pair in ink[2] if chance.random() < 0.5]
            second = Shelf(inks)
            pair = ShelfPair(first, second)
            unlike = [told for told in stacks_of(first, 5) if first.stack(told) != second.stack(told)]
            self.assertIs(bool(pair), not unlike)
            if unlike:
                parted += 1
                self.assertEqual(pair.parting, unlike[0])
            else:
                alike += 1
                found = dict.fromkeys([(first.stack(told), second.stack(told)) for told in stacks_of(first, 5)])
                self.assertEqual(pair.table, tuple(found))
                self.assertIsNone(judge_shelves(first, second, pair.table))
                self.check_left_out(first, second, pair.table)
        self.assertGreater(min(alike, parted), 60)

    def check_left_out(self, first, second, table):
        self.assertIsNone(judge_shelves(first, second, listed(table[::-1] + table)))
        for at in range(len(table)):
            rows = table[:at] + table[at + 1:]
            needing = [number for number, row in enumerate(rows)
                       for name in first.names if (first.laid(row[0], name),) * 2 == table[at]]
            self.assertEqual(judge_shelves(first, second, rows), -1 if at == 0 else needing[0])

    def test_judged_tables(self):
        first = Shelf((SUN, SKY))
        second = Shelf((SUN, ("sky", "blue", (("tan", "red"), ("yellow", "green")))))
        table = ShelfPair(first, second).table
        for thing in (None, 3, "ab", (), table[1:], {}, ("white", "white"), (["white"],)):
            self.assertEqual(judge_shelves(first, second, thing), -1)
        for row in (None, (), ("red",), ("red", "red", "red"), ("Red", "Red"), (1, 1), (True, True), "rr", "white",
                    ("red", "blue"), ("white", "blue"), ("tan", "tan")):
            self.assertEqual(judge_shelves(first, second, (*table, row)), 4)
            self.assertEqual(judge_shelves(first, second, (row, *table)), 0)
        self.assertIsNone(judge_shelves(first, second, (("zinc", "zinc"), *table, *table)))
        # A wrong row that has the form stands, so that the rows that lead to it are right.
        parted = Shelf((SUN, ("sky", "blue", (("yellow", "tan"),))))
        rows = (("white", "white"), ("yellow", "yellow"), ("blue", "blue"), ("green", "tan"))
        self.assertEqual(judge_shelves(first, parted, rows), 3)
        self.assertEqual(judge_shelves(first, parted, rows[:3]), 1)
        self.assertEqual(judge_shelves(first, parted, (*rows[:3], ("green", "Tan"))), 1)


class SwapsTest(unittest.TestCase, Checks):
    def test_small_shelves(self):
        shelf = Shelf((SUN, SKY, ("wash", "black", (("black", "white"),)), ("ink", "yellow", ())))
        self.assertEqual(exchange(shelf, "sun", "sky"), ())
        self.assertIsNone(exchange(shelf, "sun", "ink"))
        self.assertIsNone(exchange(shelf, "wash", "wash"))
        self.assertIsNone(steady(shelf, "sun"))
        self.assertEqual(steady(shelf, "wash"), ())
        self.assertEqual(steady(shelf, "sky"), ("sun",))
        self.assertIsNone(hides(shelf, "sun", "sky"))
        self.assertEqual(hides(shelf, "sky", "sun"), ())
        self.assertEqual(hides(shelf, "wash", "wash"), ())
        self.assertIsNone(hides(shelf, "sun", "sun"))

    def test_no_inks(self):
        shelf = Shelf((SUN, SKY))
        for thing in ODD + ("moon", ["sun"]):
            self.assert_error(NoInk, {"name": thing}, steady, shelf, thing)
            for call in (exchange, hides):
                self.assert_error(NoInk, {"name": thing}, call, shelf, thing, "moon")
                self.assert_error(NoInk, {"name": thing}, call, shelf, "sun", thing)

    def test_against_all_short_stacks(self):
        chance = rng(73)
        told = {True: 0, False: 0}
        for _ in range(300):
            shelf = random_shelf(chance)
            one, other = chance.choice(shelf.names), chance.choice(shelf.names)
            stacks = list(least_stacks(shelf).values())
            for found, left, right in ((exchange(shelf, one, other), (one, other), (other, one)),
                                       (steady(shelf, one), (one, one), (one,)),
                                       (hides(shelf, one, other), (other, one), (one,))):
                unlike = [stack for stack in stacks if shelf.stack(stack + left) != shelf.stack(stack + right)]
                self.assertEqual(found, unlike[0] if unlike else None)
                told[bool(unlike)] += 1
        self.assertGreater(min(told.values()), 100)


if __name__ == "__main__":
    unittest.main()
