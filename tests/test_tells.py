import itertools
import unittest

from strayplates.book import Book
from strayplates.errors import BadKept, BadPalette
from strayplates.keptinks import KeptInks
from strayplates.picture import Picture
from strayplates.tells import Tells, judge_tells
from tests.test_verdicts import found, judged
from tests.tools import ODD, Checks, listed, lots, plain_book, random_book, rng

PALETTE = ("blue", "red")
INKS = ("rose", "sky", "sun")
WHITE = ("white", "white")
START = (WHITE, WHITE, False)
UNTOLD = (WHITE, WHITE, True)


def printed(book, behind, colour):
    """The inks at the middle one of three columns of a tape."""
    return book.inks_at(Picture.of(((*behind, colour),)), (0, 1))


def tape_moves(book, colours, kept, aim):
    shades = ("white", *colours)

    def moves(standing):
        behind, other, parted = standing
        for pair in itertools.product(shades, repeat=2):
            one, two = [set(printed(book, told, colour)) for told, colour in zip((behind, other), pair)]
            if one & set(kept) == two & set(kept):
                parts = pair[0] != pair[1] if aim is None else (aim in one) != (aim in two)
                yield pair, ((behind[1], pair[0]), (other[1], pair[1]), parted or parts)
    return moves


def table_or_tapes(book, colours, kept, aim):
    moves = tape_moves(book, colours, kept, aim)
    table, story = found(START, lambda standing: [(pair, None if follow == UNTOLD else follow) for pair, follow in moves(standing)])
    return table, None if story is None else tuple(zip(*story))


def stripped(tape):
    """The tape without white at its end."""
    while tape and tape[-1] == "white":
        tape = tape[:-1]
    return tape


def plate(book, tape, name):
    """The columns of the row 0 at which the ink is printed."""
    page = Picture.of((tape,))
    return tuple([column for column in range(-1, len(tape) + 1) if name in book.inks_at(page, (0, column))])


class TellsTest(unittest.TestCase, Checks):
    def test_the_tape_is_told(self):
        told = Tells(plain_book(), PALETTE, ["sky", "sun"])
        self.assertTrue(told)
        self.assertEqual(told.table[0], START)
        self.assertEqual(told.table[1:4], ((WHITE, ("white", "blue"), True), (WHITE, ("white", "red"), True),
                                           (("white", "blue"), WHITE, True)))
        self.assertEqual((told.tapes, len(told), tuple(told)), (None, len(told.table), told.table))
        self.assert_tuples(told.table)

    def test_the_tape_is_not_told(self):
        told = Tells(plain_book(), PALETTE, ("sky",))
        self.assertFalse(told)
        self.assertEqual((told.tapes, told.table, len(told), list(told)), (
            (("white", "white", "white"), ("red", "white", "white")), None, 0, []))
        self.assert_tuples(told.tapes)
        self.assertEqual(Tells(plain_book(), ("red",), ()).tapes, (("white", "white", "white"), ("red", "white", "white")))
        self.assertEqual(Tells(Book(), ("red",), ("sun",)).tapes[1][0], "red")

    def test_inks_that_are_told(self):
        book = Book((("red", "left", "white", ("first", "red")), ("red", ("red",)), ("blue", ("blue",))))
        self.assertTrue(Tells(book, PALETTE, ("blue", "red"), "first"))
        self.assertTrue(Tells(book, PALETTE, ("red",), "red"))
        self.assertTrue(Tells(book, PALETTE, (), "none"))
        self.assertFalse(Tells(book, PALETTE, ("first",), "red"))
        # A red cell behind a blue one is none behind white, and the plate of red does not tell this.
        apart = Tells(book, PALETTE, ("red",), "first")
        self.assertFalse(apart)
        one, other = apart.tapes
        self.assertEqual(plate(book, one, "red"), plate(book, other, "red"))
        self.assertNotEqual(plate(book, one, "first"), plate(book, other, "first"))
        # On a palette without blue it is told.
        self.assertTrue(Tells(book, ("red",), ("red",), "first"))

    def test_white_at_the_end_does_not_count(self):
        # White beside red is printed, also ahead of the tape and behind it.
        beside = Book((("white", "right", "red", ("ahead",)), ("white", "left", "red", ("behind",))))
        self.assertTrue(Tells(beside, ("red",), ("ahead", "behind")))
        self.assertEqual([plate(beside, ("red",), name) for name in ("ahead", "behind")], [(-1,), (1,)])
        one, other = Tells(beside, ("red",), ("ahead",)).tapes
        self.assertEqual(len(one), len(other))
        self.assertNotEqual(stripped(one), stripped(other))

    def test_what_lies_above_and_below_is_white(self):
        book = Book((("red", "up", "white", ("top",)), ("red", "hemmed", "white", ("lone",)), ("red", "down", "red", ("deep",))))
        self.assertTrue(Tells(book, ("red",), ("top",)))
        self.assertFalse(Tells(book, ("red",), ("deep", "lone")))

    def test_errors(self):
        book = plain_book()
        for thing in ODD:
            if thing != ("red",):
                self.assert_error(BadPalette, {"colours": thing}, Tells, book, thing, None)
                self.assert_error(BadPalette, {"colours": thing}, judge_tells, book, thing, None, None, None)
                self.assert_error(BadPalette, {"colours": thing}, KeptInks, book, thing, None)
        for call, told in ((Tells, ()), (KeptInks, ()), (judge_tells, (None, None))):
            for thing in (None, 3, "ab", {}, ("a", "b", "c", "d", "e"), (None,) * 5):
                self.assert_error(BadKept, {"number": -1}, call, book, PALETTE, thing, *told)
            for thing in (None, 3, "Red", "", ("b",), "a", "aa", "abcdefghi", True):
                self.assert_error(BadKept, {"number": 2}, call, book, PALETTE, ("a", "aa", thing, None), *told)
            for thing in ("a", "b", "aa", None):
                self.assert_error(BadKept, {"number": 1}, call, book, PALETTE, ("b", thing), *told)
        self.assertEqual(len(Tells(book, PALETTE, ("a", "b", "sky", "sun")).table), len(Tells(book, PALETTE, ("sky", "sun")).table))

    def test_against_all_short_tapes(self):
        chance = rng(581)
        told_tape = told_ink = untold = 0
        for _ in range(250):
            palette = chance.choice((PALETTE, ("red",)))
            book = random_book(chance, ("white", *palette), INKS, 5, 1)
            if chance.random() < 0.4:
                book = book + plain_book()
            kept = tuple(sorted(chance.sample(INKS + ("none",), chance.randint(0, 3))))
            aim = chance.choice((None, None, *INKS))
            told = Tells(book, listed(palette), listed(kept), aim)
            self.assertEqual((told.table, told.tapes), table_or_tapes(book, palette, kept, aim))
            self.assertIs(bool(told), told.tapes is None)
            if told:
                told_tape += aim is None
                told_ink += aim is not None
                self.check_tapes(book, palette, kept, aim)
                self.check_table(chance, book, palette, kept, aim, told.table)
            else:
                untold += 1
                one, other = told.tapes
                self.assertEqual(len(one), len(other))
                for name in kept:
                    self.assertEqual(plate(book, one, name), plate(book, other, name))
                if aim is None:
                    self.assertNotEqual(stripped(one), stripped(other))
                else:
                    self.assertNotEqual(plate(book, one, aim), plate(book, other, aim))
        self.assertGreater(min(told_tape, told_ink), 15)
        self.assertGreater(untold, 80)

    def check_tapes(self, book, palette, kept, aim):
        """No two tapes with the same plates of the kept inks have another plate, or are unlike."""
        firsts = {}
        for tape in itertools.product(("white", *palette), repeat=4):
            plates = tuple([plate(book, tape, name) for name in kept])
            asked = stripped(tape) if aim is None else plate(book, tape, aim)
            self.assertEqual(firsts.setdefault(plates, asked), asked)

    def check_table(self, chance, book, palette, kept, aim, table):
        moves = tape_moves(book, palette, kept, aim)
        self.assertIsNone(judge_tells(book, palette, kept, aim, table))
        self.assertIsNone(judge_tells(book, palette, listed(kept), aim, listed(table[::-1] + table)))
        for _ in range(3):
            rows = list(table)
            rows.pop(chance.randrange(len(rows)))
            self.assertEqual(judge_tells(book, palette, kept, aim, rows), judged(START, moves, table, rows))
        self.assertEqual(judge_tells(book, palette, kept, aim, (*table, UNTOLD)), -1)
        behinds = list(itertools.product(("white", *palette), repeat=2))
        row = (chance.choice(behinds), chance.choice(behinds), chance.random() < 0.5)
        if row != UNTOLD:
            wrong = any(follow not in (*table, row) for _, follow in moves(row))
            self.assertEqual(judge_tells(book, palette, kept, aim, (*table, row)), len(table) if wrong else None)


class JudgeTellsTest(unittest.TestCase, Checks):
    def test_rows_that_have_not_the_form(self):
        book = plain_book()
        table = Tells(book, ("red",), ("sun",)).table

        def judge(rows):
            return judge_tells(book, ("red",), ("sun",), None, rows)

        for thing in (None, 3, "abc", {}, (), table[1:], ((WHITE, WHITE, 0), *table[1:]), (None,)):
            self.assertEqual(judge(thing), -1)
        red = ("white", "red")
        for row in (None, 3, "abc", (), (red, red), (red, red, False, 0), (red, red, 0), (red, red, 1), (red, red, None), (red, red, "x"),
                    (red[1:], red, False), ((*red, "red"), red, False), (("blue", "red"), red, False), (("Red", "red"), red, False),
                    ("ab", red, False), (red, None, False), (red, (None, "red"), False), (red, (("red",), "red"), False), (WHITE, WHITE, 1)):
            self.assertEqual(judge((*table, row)), len(table), row)
            self.assertEqual(judge([listed(row), *table]), 0)
        self.assertIsNone(judge((*table, (("red", "red"), ("red", "red"), False))))

    def test_what_is_not_told(self):
        book = plain_book()
        behinds = list(itertools.product(("white", *PALETTE), repeat=2))
        rows = [row for row in itertools.product(behinds, behinds, (False, True)) if row != UNTOLD]
        answer = judge_tells(book, PALETTE, ("sky",), None, rows)
        self.assertIn(UNTOLD, [follow for _, follow in tape_moves(book, PALETTE, ("sky",), None)(rows[answer])])
        self.assertEqual(judge_tells(book, PALETTE, ("sky",), None, [UNTOLD, *rows]), -1)
        self.assertEqual(judge_tells(book, PALETTE, ("sky",), "sun", (START,)), 0)

    def test_asked_by_turns(self):
        one, other = plain_book(), Book((("red", ("sky",)),))
        told = [(Tells(one, PALETTE, ("sky", "sun")).table, Tells(other, PALETTE, ("sky",)).tapes, Tells(one, PALETTE, (), "sun").tapes,
                 KeptInks(other, PALETTE, INKS).table) for _ in range(2)]
        self.assertEqual(told[0], told[1])


class KeptInksTest(unittest.TestCase, Checks):
    def test_a_small_one(self):
        told = KeptInks(plain_book(), PALETTE, listed(INKS))
        self.assertTrue(told)
        self.assertEqual([lot for lot, _ in told.table], lots(3))
        self.assertEqual([lot for lot, tapes in told.table if tapes is None], [(1, 2), (0, 1, 2)])
        self.assertEqual(told.table[1], ((0,), (("white", "white", "white"), ("blue", "white", "white"))))
        self.assertEqual((tuple(told), len(told)), (((1, 2),), 1))
        self.assert_tuples(told.table)
        for thing in ((1, 2), [1, 2], (0, 1, 2)):
            self.assertIs(thing in told, True)
        for thing in [odd for odd in ODD if odd != (1, 2)] + [(2, 1), (0, 1), (1, 2, 3), (True, 2), "12", (1, 2, None), {1: 2}]:
            self.assertIs(thing in told, False)

    def test_no_lot_tells_and_one_alone_does(self):
        none = KeptInks(plain_book(), PALETTE, ("rose", "sun"))
        self.assertFalse(none)
        self.assertEqual((len(none), list(none), (0, 1) in none, len(none.table)), (0, [], False, 4))
        empty = KeptInks(plain_book(), PALETTE, ())
        self.assertEqual((bool(empty), len(empty.table), len(empty)), (False, 1, 0))
        alone = KeptInks(plain_book(), ("red",), ("sky", "sun", "tan"))
        self.assertEqual((bool(alone), tuple(alone), (0, 1) in alone, () in alone), (True, ((1,),), True, False))
        self.assertEqual(len(KeptInks(plain_book(), PALETTE, ("a", "b", "c", "d")).table), 16)

    def test_against_tells(self):
        chance = rng(583)
        told_some = 0
        for _ in range(120):
            book = random_book(chance, ("white", *PALETTE), INKS, 6, 2)
            if chance.random() < 0.5:
                book = book + plain_book()
            inks = tuple(sorted(chance.sample(INKS + ("none",), chance.randint(0, 4))))
            told = KeptInks(book, PALETTE, inks)
            expected = [(lot, Tells(book, PALETTE, [inks[k] for k in lot]).tapes) for lot in lots(len(inks))]
            self.assertEqual(told.table, tuple(expected))
            serving = [lot for lot, tapes in expected if tapes is None]
            self.assertIs(bool(told), tuple(range(len(inks))) in serving)
            self.assertEqual(tuple(told), tuple([lot for lot in serving if not any(set(part) < set(lot) for part in serving)]))
            for lot in lots(len(inks)):
                self.assertIs(lot in told, lot in serving)
            told_some += bool(serving)
        self.assertGreater(told_some, 8)


if __name__ == "__main__":
    unittest.main()
