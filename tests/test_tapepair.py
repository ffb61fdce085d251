import itertools
import unittest
from unittest import mock

from strayplates.band import Band, tape_seen
from strayplates.book import Book
from strayplates.bookpair import BookPair
from strayplates.common import Finding
from strayplates.errors import BadBars, BadClaim, TooMany
from strayplates.press import Press
from strayplates.shelf import Shelf
from strayplates.tapebars import TapeBars
from strayplates.tapepair import TapePair, judge_tape_pair
from strayplates.tapeverdict import TapeVerdict
from tests.test_band_readers import random_tape, wander
from tests.test_verdicts import CLAIMS, found, judged, random_band
from tests.tools import ODD, ROSE, SKY, SUN, Checks, listed, lots, plain_book, random_book, rng, two_press

PALETTE = ("blue", "red")
SHUT = ("shut", "across", "yellow", "blue", 1)
INKS = ("rose", "sky", "sun")


def pair_moves(band, first, second):
    def moves(standing):
        behind, lies = standing
        for step in band.onward(behind, lies):
            alike = band.seen(first, behind, step) == band.seen(second, behind, step)
            yield step, (band.after(behind, step), step[1]) if alike else None
    return moves


def changed_book(chance, book, colours):
    """A book that is often alike the other one on a band."""
    rules = list(book.rules)
    deed = chance.randint(0, 4)
    at = chance.randint(0, len(rules))
    if deed == 0 and at < len(rules) - 1:
        rules[at], rules[at + 1] = rules[at + 1], rules[at]
    elif deed == 1 and at < len(rules):
        rules.insert(at, rules[at])
    elif deed == 2 and rules:
        rules.pop(at - 1)
    elif deed == 3:
        # A side that a cell of a tape has white, so that it never fits.
        rules.insert(at, (chance.choice(colours), chance.choice(("up", "down", "hemmed")), colours[-1], INKS[:1]))
    elif rules:
        rules[at - 1] = (*rules[at - 1][:-1], tuple(sorted(chance.sample(INKS, chance.randint(0, 3)))))
    return Book(rules[:12])


class TapePairTest(unittest.TestCase, Checks):
    def test_a_small_one(self):
        band = Band(Press(Shelf((SUN,)), (("sun", 0),)), ("red",))
        book = Book((("red", ("sun",)),))
        pair = TapePair(band, book, Book((("red", ("rose", "sun")),)))
        self.assertTrue(pair)
        white = ("white", "white")
        table = ((white, None), (white, ()), (("white", "red"), ()), (("red", "white"), ()), (("red", "red"), ()))
        self.assertEqual((pair.table, pair.story, pair.seen_pair), (table, None, None))
        self.assertEqual((len(pair), tuple(pair)), (5, table))
        self.assert_tuples(pair.table)
        apart = TapePair(band, book, Book((("red", "left", "red", ()), ("red", ("sun",)))))
        self.assertFalse(apart)
        self.assertEqual((apart.story, apart.seen_pair), ((("red", ()), ("red", ()), ("white", ())), ("yellow", "white")))
        self.assertEqual((apart.table, len(apart), list(apart)), (None, 0, []))

    def test_what_a_band_does_not_see(self):
        band = Band(two_press(), PALETTE)
        book = plain_book()
        # What lies above and below, and inks that are covered or that the press does not have.
        above = Book((("red", "up", "blue", ()), ("red", "down", "red", ("sky",)), ("blue", "hemmed", "red", ())))
        self.assertTrue(TapePair(band, above + book, book))
        self.assertFalse(BookPair(above + book, book, PALETTE))
        near = Book((("red", "near", "red", ("sky", "sun")), ("blue", "near", "red", ("rose", "sky"))))
        self.assertFalse(TapePair(band, near + book, book))
        covered = Band(Press(Shelf((SUN, ROSE[:2] + ((),))), (("sun", 0), ("rose", 0))), PALETTE)
        self.assertTrue(TapePair(covered, Book((("red", ("rose", "sun")),)), Book((("red", ("rose",)),))))
        wandering = Band(Press(covered.press.shelf, (("sun", 0), ("rose", 1)), ((0, 0, 0, 1),)), PALETTE)
        self.assertFalse(TapePair(wandering, Book((("red", ("rose", "sun")),)), Book((("red", ("rose",)),))))

    def test_up_and_down_do_not_count(self):
        boxes = ((3, 3, 0, 0),)
        self.assertEqual(len(TapePair(Band(two_press(boxes), ("red",)), plain_book(), plain_book())), 5)

    def test_too_many(self):
        three = ("a", "b", "c")
        press = two_press(((0, 0, 0, 3),))
        book = plain_book()
        fits = Band(press, three, bars=(("a", "a"), ("a", "b"), ("b", "b")))
        self.assertEqual(len(TapePair(fits, book, book)), 1993)
        beyond = Band(press, three, bars=(("a", "a"), ("a", "b"), ("c", "a")))
        moves = pair_moves(beyond, book, book)
        self.assertEqual(len(found((beyond.beginning, None), moves, 5000)[0]), 2017)
        self.assert_error(TooMany, {"word": "standing"}, TapePair, beyond, book, book)
        # What comes first is told.
        apart = TapePair(beyond, book, Book((("c", ("sun",)),)))
        self.assertEqual(apart.seen_pair, ("white", "yellow"))
        self.assertEqual(judge_tape_pair(beyond, book, book, ()), -1)
        self.assertEqual(judge_tape_pair(beyond, book, book, ((beyond.beginning, None),)), 0)
        with mock.patch("strayplates.tapepair.Finding", side_effect=Finding) as finding:
            TapePair(Band(press, ("a",)), book, book)
        self.assertEqual(finding.call_args.args[1], 2000)

    def test_against_plain_ways(self):
        chance = rng(511)
        alike = apart = 0
        for _ in range(250):
            band = random_band(chance)
            first = random_book(chance, ("white", *band.colours), INKS, 5, 2)
            second = changed_book(chance, first, band.colours)
            start = (band.beginning, None)
            moves = pair_moves(band, first, second)
            expected = found(start, moves)
            pair = TapePair(band, first, second)
            self.assertEqual((pair.table, pair.story), expected)
            self.assertIs(bool(pair), pair.story is None)
            if BookPair(first, second, band.colours):
                self.assertTrue(pair)
            if pair:
                alike += 1
                self.check_table(chance, band, first, second, pair.table)
                for _ in range(4):
                    tape = random_tape(chance, band, chance.randint(0, 6))
                    lies = wander(chance, band, len(tape) + band.depth)
                    self.assertEqual(tape_seen(band, first, tape, lies), tape_seen(band, second, tape, lies))
            else:
                apart += 1
                self.check_story(band, first, second, pair)
        self.assertGreater(min(alike, apart), 40)

    def check_story(self, band, first, second, pair):
        tape = tuple([colour for colour, _ in pair.story])
        lies = [here for _, here in pair.story]
        lies = lies + [lies[-1]] * band.depth
        seen = [tape_seen(band, book, tape, lies)[:len(tape)] for book in (first, second)]
        self.assertEqual(seen[0][:-1], seen[1][:-1])
        self.assertEqual((seen[0][-1], seen[1][-1]), pair.seen_pair)
        self.assertNotEqual(*pair.seen_pair)

    def check_table(self, chance, band, first, second, table):
        start = (band.beginning, None)
        moves = pair_moves(band, first, second)
        self.assertIsNone(judge_tape_pair(band, first, second, table))
        self.assertIsNone(judge_tape_pair(band, first, second, listed(table[::-1] + table)))
        for _ in range(3):
            rows = list(table)
            rows.pop(chance.randrange(len(rows)))
            self.assertEqual(judge_tape_pair(band, first, second, rows), judged(start, moves, table, rows))
        spoilt = list(table)
        at = chance.randrange(len(table))
        spoilt[at] = (table[at][0][1:], table[at][1])
        self.assertEqual(judge_tape_pair(band, first, second, spoilt), judged(start, moves, table, spoilt))

    def test_judging_books_that_are_not_alike(self):
        band = Band(two_press(((0, 0, 0, 0),)), ("red",))
        book, other = plain_book(), Book((("red", ("sky",)),))
        rows = [(behind, lies) for lies in (None, (0,)) for behind in itertools.product(("white", "red"), repeat=2)]
        self.assertIsNone(judge_tape_pair(band, book, book, rows))
        # Behind a red column, what is seen there is unlike; so the first row with red at its end is wrong.
        self.assertEqual(judge_tape_pair(band, book, other, rows), 1)
        self.assertEqual(judge_tape_pair(band, book, other, rows[:1] + rows[4:5]), 0)

    def test_rows_that_have_not_the_form(self):
        band, book = Band(two_press(), ("red",)), plain_book()
        table = TapePair(band, book, book).table
        behind, lies = table[-1]
        for thing in (None, "ab", 3, {}, (), table[1:], (None,), ((("white",) * 3, ()),)):
            self.assertEqual(judge_tape_pair(band, book, book, thing), -1)
        for row in (None, (), "ab", 3, (behind,), (behind, lies, 0), (behind[1:], lies), (("blue",) * 3, lies), (("white", "white", "blue"), lies),
                    (("tan", "red", "red"), lies), ("red", lies),
                    (("Red",) * 3, lies), (behind, (2,)), (behind, (-1,)), (behind, (True,)), (behind, ()), (behind, (0, 0)),
                    (behind, "0"), (behind, 0), (None, lies), ((1, 2, 3), lies), ((("red",),) * 3, lies)):
            self.assertEqual(judge_tape_pair(band, book, book, (*table, row)), len(table))
            self.assertEqual(judge_tape_pair(band, book, book, [listed(row), *table]), 0)
        # It has the form, though bars would not let it come: all that follows from it is in the table.
        self.assertIsNone(judge_tape_pair(band, book, book, (*table, (("red",) * 3, None))))

    def test_asked_by_turns(self):
        band, book = Band(two_press(), PALETTE), plain_book()
        told = [(TapePair(band, book, book).table, TapePair(band, book, Book()).story) for _ in range(2)]
        self.assertEqual(told[0], told[1])


class TapeBarsTest(unittest.TestCase, Checks):
    def setUp(self):
        self.band = Band(two_press(), PALETTE)
        self.menu = (("red", "blue"), ("red", "red"), ("blue", "red"))

    def test_a_small_one(self):
        bars = TapeBars(self.band, plain_book(), SHUT, listed(self.menu))
        self.assertTrue(bars)
        self.assertEqual([lot for lot, _ in bars.table], lots(3))
        self.assertEqual([lot for lot, story in bars.table if story is None], [(0, 2), (0, 1, 2)])
        self.assertEqual(bars.table[0][1], TapeVerdict(self.band, plain_book(), SHUT).story)
        self.assertEqual((len(bars), tuple(bars)), (1, ((0, 2),)))
        self.assert_tuples(bars.table)
        for thing in ((0, 2), [0, 2], (0, 1, 2)):
            self.assertIs(thing in bars, True)
        for thing in ODD + ((), (2, 0), (0, 0, 2), (0, True, 2), (False, 2), ("0", "2"), (0, 3), "02", (0, 2, None)):
            self.assertIs(thing in bars, False)

    def test_no_lot_serves_and_all_do(self):
        none = TapeBars(self.band, plain_book(), ("never", "blue"), self.menu)
        self.assertFalse(none)
        self.assertEqual((len(none), list(none), len(none.table), () in none), (0, [], 8, False))
        every = TapeBars(self.band, plain_book(), ("never", "tan"), self.menu[:2])
        self.assertTrue(every)
        self.assertEqual((tuple(every), every.table, () in every, [1] in every), (
            ((),), (((), None), ((0,), None), ((1,), None), ((0, 1), None)), True, True))

    def test_errors(self):
        band, book = self.band, plain_book()
        for thing in ODD + (("true",), ["never"], ("thick", "down", "red", 2), ("fringe", "red", 1)):
            self.assert_error(BadClaim, {"claim": thing}, TapeBars, band, book, thing, None)
        for thing in ODD + ("ab", self.menu + (("blue", "blue"), ("red", "tan")), (None,) * 5):
            if not isinstance(thing, (tuple, list)) or len(thing) > 4:
                self.assert_error(BadBars, {"number": -1}, TapeBars, band, book, SHUT, thing)
        for thing in (None, "ab", ("red",), ("red", "blue", "red"), ("white", "red"), ("red", "tan"), ("red", "blue"),
                      ["red", "blue"], (1, "red"), ("red", None), ()):
            self.assert_error(BadBars, {"number": 1}, TapeBars, band, book, SHUT, (("red", "blue"), thing, None))
        barred = band.with_bars(("red", "red"), ("blue", "blue"))
        self.assert_error(BadBars, {"number": 0}, TapeBars, barred, book, SHUT, [["blue", "blue"]])
        self.assertEqual(len(TapeBars(band, book, SHUT, self.menu + (("blue", "blue"),)).table), 16)

    def test_8_bars_with_those_of_the_band(self):
        three = ("a", "b", "c")
        pairs = list(itertools.product(three, repeat=2))
        band = Band(two_press((), (0, 0)), three, bars=pairs[:6])
        told = TapeBars(band, Book(), ("never", "tan"), pairs[6:8])
        self.assertEqual(len(told.table), 4)
        self.assert_error(BadBars, {"number": -1}, TapeBars, band, Book(), ("never", "tan"), pairs[6:9])
        self.assert_error(BadBars, {"number": -1}, TapeBars, band, Book(), ("never", "tan"), (None, "ab", 3))
        full = Band(two_press((), (0, 0)), three, bars=pairs[:8])
        self.assertEqual(TapeBars(full, Book(), ("never", "tan"), ()).table, (((), None),))
        self.assert_error(BadBars, {"number": -1}, TapeBars, full, Book(), ("never", "tan"), pairs[8:])

    def test_too_many(self):
        press = Press(Shelf((SUN, SKY)), (("sun", 1), ("sky", 2)), ((0, 0, 3, 3), (0, 0, 3, 3)))
        band = Band(press, PALETTE)
        self.assert_error(TooMany, {"word": "standing"}, TapeBars, band, plain_book(), ("never", "tan"), self.menu[:1])
        self.assert_error(BadBars, {"number": 0}, TapeBars, band, plain_book(), ("never", "tan"), (None,))
        # Whichever lot raises it: with the first one, a story is told first.
        self.assertFalse(TapeVerdict(band, plain_book(), ("never", "blue")))
        self.assertEqual(len(TapeBars(band, plain_book(), ("never", "blue"), self.menu).table), 8)

    def test_against_verdicts(self):
        chance = rng(513)
        served = unserved = 0
        for _ in range(110):
            band, claim = random_band(chance), chance.choice(CLAIMS)
            if chance.random() < 0.5:
                claim = chance.choice((SHUT, ("narrow", "across", "blue", 2), ("thick", "across", "yellow", 2)))
                band = Band(two_press(((0, 0, 0, chance.randint(0, 1)),)), PALETTE, pace=chance.randint(0, 1))
            pairs = [pair for pair in itertools.product(band.colours, repeat=2) if pair not in band.bars]
            menu = chance.sample(pairs, min(len(pairs), chance.randint(0, 3)))
            book = chance.choice((plain_book(), random_book(chance, ("white", *band.colours), INKS, 5, 2)))
            expected = []
            for lot in lots(len(menu)):
                barred = Band(band.press, band.colours, pace=band.pace, bars=band.bars + tuple([menu[k] for k in lot]))
                expected.append((lot, TapeVerdict(barred, book, claim).story))
            told = TapeBars(band, book, claim, menu)
            self.assertEqual(told.table, tuple(expected))
            serving = [lot for lot, story in expected if story is None]
            least = [lot for lot in serving if not any(set(part) < set(lot) for part in serving)]
            self.assertEqual((tuple(told), bool(told)), (tuple(least), bool(serving)))
            for lot in lots(len(menu)):
                self.assertIs(lot in told, lot in serving)
            served += bool(serving) and serving[0] != ()
            unserved += not serving
        self.assertGreater(served, 3)
        self.assertGreater(unserved, 5)

    def test_lists_are_kept(self):
        menu = listed(self.menu)
        told = TapeBars(self.band, plain_book(), list(SHUT), menu)
        menu[0][0] = "blue"
        menu.pop()
        self.assertEqual(told.table, TapeBars(self.band, plain_book(), SHUT, self.menu).table)


if __name__ == "__main__":
    unittest.main()
