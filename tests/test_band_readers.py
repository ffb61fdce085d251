import itertools
import unittest

from strayplates.band import Band, tape_seen
from strayplates.book import Book
from strayplates.claims import holds
from strayplates.errors import BadBars, BadClaim, BadLies, BadPace, BadPalette, BadTape
from strayplates.picture import Picture
from strayplates.press import Press
from strayplates.readers import Reader
from strayplates.shelf import Shelf
from tests.tools import ODD, ROSE, SKY, SUN, Checks, listed, random_book, rng, two_press

PALETTE = ("blue", "red")
PAIRS = tuple(itertools.product(("a", "b", "c"), repeat=2))


def told_seen(press, book, tape, column, lies):
    """What is seen at a column of the row 0, by the plates that the book makes of the tape."""
    job = book.made(press, Picture.of((tape,)))
    names = []
    for (name, turn), plate in zip(press.units, job.plates):
        side = 0 if turn == 0 else lies[turn - 1]
        if (0, column - side) in plate:
            names.append(name)
    return press.shelf.stack(names)


def wander(chance, band, many):
    found = [chance.choice(band.lies)]
    while len(found) < many:
        found.append(chance.choice([lies for lies in band.lies if all(
            abs(one - other) <= band.pace for one, other in zip(lies, found[-1]))]))
    return tuple(found)


def random_tape(chance, band, many):
    found = []
    while len(found) < many:
        hue = chance.choice(("white", *band.colours))
        if not found or (found[-1], hue) not in band.bars:
            found.append(hue)
    return tuple(found)


class BandTest(unittest.TestCase, Checks):
    def setUp(self):
        self.press = two_press(((3, 3, 1, 0), (0, 0, 0, 2)), (1, 2))
        self.band = Band(self.press, PALETTE, bars=(("red", "blue"), ("blue", "blue")))

    def test_attributes(self):
        band = self.band
        self.assertEqual((band.press, band.colours, band.pace), (self.press, PALETTE, 1))
        self.assertEqual(band.bars, (("red", "blue"), ("blue", "blue")))
        self.assertEqual((band.left, band.right, band.depth), (1, 2, 5))
        self.assertEqual(band.lies, ((-1, 0), (-1, 1), (-1, 2), (0, 0), (0, 1), (0, 2)))
        self.assertEqual(band.beginning, ("white",) * 5)
        bare = Band(two_press((), (0, 0)), ["red"], pace=0)
        self.assertEqual((bare.left, bare.right, bare.depth, bare.lies, bare.bars), (0, 0, 2, ((),), ()))
        self.assertEqual((bare.pace, bare.beginning), (0, ("white", "white")))

    def test_onward_and_after(self):
        band = self.band
        behind = ("white", "white", "white", "white", "red")
        self.assertEqual(band.onward(behind, None), tuple(itertools.product(("white", "red"), band.lies)))
        self.assertEqual(band.onward(listed(behind), [-1, 2]), tuple(itertools.product(
            ("white", "red"), ((-1, 1), (-1, 2), (0, 1), (0, 2)))))
        still = Band(self.press, PALETTE, pace=0)
        self.assertEqual(still.onward(band.beginning, (0, 1)), tuple([(hue, (0, 1)) for hue in ("white", *PALETTE)]))
        self.assertEqual(band.after(behind, ("blue", (0, 0))), ("white", "white", "white", "red", "blue"))
        self.assertEqual(band.after(listed(behind), ["blue", [0, 0]]), ("white", "white", "white", "red", "blue"))
        bare = Band(two_press((), (0, 0)), ("red",))
        self.assertEqual(bare.onward(("white", "red"), ()), (("white", ()), ("red", ())))
        self.assertEqual(bare.onward(("white", "red"), None), (("white", ()), ("red", ())))

    def test_seen_by_hand(self):
        # The sun is moved by up to one to the right; what is seen is the column that came three columns ago.
        band = Band(two_press(), PALETTE)
        book = Book((("red", ("sun",)), ("blue", ("sky",))))
        self.assertEqual((band.left, band.right, band.depth), (0, 1, 3))
        behind = ("white", "blue", "red")
        self.assertEqual(band.seen(book, behind, ("white", (0,))), "yellow")
        self.assertEqual(band.seen(book, behind, ("white", (1,))), "green")
        self.assertEqual(band.seen(book, listed(behind), ["white", [1]]), "green")

    def test_tape_seen(self):
        chance = rng(21)
        shelf = Shelf((SUN, SKY, ROSE))
        for turn in range(60):
            boxes = chance.choice(((), ((1, 0, 1, 0),), ((0, 0, 0, 2), (0, 2, 2, 1)), ((0, 0, 3, 3),)))
            units = [(name, chance.randint(0, len(boxes))) for name in ("sun", "sky", "rose")]
            press = Press(shelf, units, boxes)
            band = Band(press, PALETTE, pace=chance.randint(0, 1), bars=chance.choice(((), (("red", "red"),))))
            book = random_book(chance, ("white", "blue", "red"), ("rose", "sky", "sun"), 5)
            tape = random_tape(chance, band, chance.randint(0, 7))
            lies = wander(chance, band, len(tape) + band.depth)
            told = [told_seen(press, book, tape, number - band.left - 1, here) for number, here in enumerate(lies)]
            self.assertEqual(tape_seen(band, book, tape, lies), tuple(told))
            self.assertEqual(tape_seen(band, book, list(tape), listed(lies)), tuple(told))
            behind = band.beginning
            for number, here in enumerate(lies):
                step = ((*tape, *band.beginning)[number], here)
                self.assertIn(step, band.onward(behind, lies[number - 1] if number else None))
                self.assertEqual(band.seen(book, behind, step), told[number])
                behind = band.after(behind, step)

    def test_tapes_that_are_none(self):
        band, book = self.band, Book()
        lies = ((0, 0),) * 100
        for thing in (None, "red", 3, {}, ("red",) * 61, (None,) * 61):
            self.assert_error(BadTape, {"number": -1}, tape_seen, band, book, thing, None)
        for tape in (("red", "green"), ("red", "blue"), ("red", None), ("red", ["red"]), ("red", True), ("red", "Red")):
            self.assert_error(BadTape, {"number": 1}, tape_seen, band, book, (*tape, None), None)
        self.assert_error(BadTape, {"number": 2}, tape_seen, band, book, ("white", "blue", "blue"), None)
        self.assertEqual(len(tape_seen(band, book, ("red",) * 60, lies[:65])), 65)
        self.assertEqual(len(tape_seen(band, book, (), lies[:5])), 5)
        self.assertEqual(len(tape_seen(band, book, ("red", "white", "blue"), lies[:8])), 8)

    def test_lies_that_are_none(self):
        band, book = self.band, Book()
        for thing in (None, "ab", ((0, 0),) * 6, ((0, 0),) * 8, {}, (None,) * 8):
            self.assert_error(BadLies, {"number": -1}, tape_seen, band, book, ("red", "red"), thing)
        for here in (None, (0,), (0, 0, 0), (1, 0), (-2, 0), (0, 3), (0, True), (False, 0), "00", (0, 2)):
            self.assert_error(BadLies, {"number": 1}, tape_seen, band, book, ("red", "red"),
                              ((0, 0), here, *((0, 0),) * 5))
        still = Band(self.press, PALETTE, pace=0)
        self.assert_error(BadLies, {"number": 1}, tape_seen, still, book, (), ((0, 0), (0, 1), *((0, 1),) * 3))

    def test_errors(self):
        for thing in (None, (), ["red", "blue"], "red"):
            self.assert_error(BadPalette, {"colours": thing}, Band, self.press, thing, pace=2, bars=None)
        for thing in (None, True, False, 2, -1, "1", 1.0, (1,)):
            self.assert_error(BadPace, {"pace": thing}, Band, self.press, PALETTE, pace=thing, bars=None)
        palette = ("a", "b", "c")
        self.assertEqual(Band(self.press, palette, bars=listed(PAIRS[:8])).bars, PAIRS[:8])
        for thing in (None, "ab", 3, PAIRS, {("a", "b")}, (None,) * 9):
            self.assert_error(BadBars, {"number": -1}, Band, self.press, palette, bars=thing)
        for bar in (None, "ab", ("a",), ("a", "b", "c"), ("a", "d"), ("white", "a"), ("a", "white"), (1, "a"), ("a", "b"),
                    (["a"], "b")):
            self.assert_error(BadBars, {"number": 1}, Band, self.press, palette, bars=(("a", "b"), bar, None))

    def test_with_bars(self):
        band = Band(self.press, ("a", "b", "c"), pace=0, bars=PAIRS[:2])
        more = band.with_bars(["a", "c"], PAIRS[3])
        self.assertEqual((more.bars, more.pace, more.colours, more.press), (PAIRS[:4], 0, band.colours, self.press))
        self.assertEqual((band.bars, band.with_bars().bars), (PAIRS[:2], PAIRS[:2]))
        self.assert_error(BadBars, {"number": 3}, band.with_bars, PAIRS[4], PAIRS[0])
        self.assert_error(BadBars, {"number": 2}, band.with_bars, None)
        self.assert_error(BadBars, {"number": -1}, band.with_bars, *PAIRS[2:])
        self.assertEqual(len(band.with_bars(*PAIRS[2:8]).bars), 8)

    def test_lists_are_kept(self):
        colours, bars = list(PALETTE), [["red", "blue"]]
        band = Band(self.press, colours, bars=bars)
        colours.pop()
        bars[0].reverse()
        self.assertEqual((band.colours, band.bars), (PALETTE, (("red", "blue"),)))
        self.assertNotIn(("blue", (0, 0)), band.onward(("red",) * 5, (0, 0)))


class ReaderTest(unittest.TestCase, Checks):
    def test_attributes(self):
        self.assertEqual(Reader.BROKEN, -1)
        for claim, start in ((("never", "red"), 0), (("thick", "across", "red", 3), 0),
                             (("thick", "across", "white", 3), 3), (("narrow", "across", "red", 2), 0),
                             (("shut", "across", "red", "blue", 2), 0)):
            reader = Reader(listed(claim))
            self.assertEqual((reader.claim, reader.start, reader.BROKEN), (claim, start, -1))

    def test_wrong_claims(self):
        for thing in ODD + (("thick", "down", "red", 2), ("keeps", "red"), ("true",), ("fringe", "red", 1),
                                 ("holes",), ["narrow", "down", "red", 1], ("shut", "down", "red", "blue", 1)):
            self.assert_error(BadClaim, {"claim": thing}, Reader, thing)

    def test_never(self):
        reader = Reader(("never", "red"))
        self.assertEqual([reader(0, hue, "red") for hue in ("red", "blue", "white")], [-1, 0, 0])

    def test_thick(self):
        reader = Reader(("thick", "across", "red", 3))
        self.assertEqual([reader(state, "red", "white") for state in range(4)], [1, 2, 3, 3])
        self.assertEqual([reader(state, "blue", "red") for state in range(4)], [0, -1, -1, 0])
        white = Reader(("thick", "across", "white", 2))
        self.assertEqual([white(state, "white", "red") for state in range(3)], [1, 2, 2])
        self.assertEqual([white(state, "red", "red") for state in range(3)], [0, -1, 0])

    def test_narrow(self):
        reader = Reader(("narrow", "across", "red", 2))
        self.assertEqual([reader(state, "red", "white") for state in range(3)], [1, 2, -1])
        self.assertEqual([reader(state, "white", "white") for state in range(3)], [0, 0, 0])

    def test_shut(self):
        n = 2
        reader = Reader(("shut", "across", "red", "blue", n))
        ones = {(w, f): 1 + 2 * w + f for w in range(n + 1) for f in (0, 1)}
        others = {(w, f): 2 * n + 3 + 2 * w + f for w in range(n + 1) for f in (0, 1)}
        self.assertEqual(sorted([0, *ones.values(), *others.values()]), list(range(4 * n + 5)))
        self.assertEqual([reader(0, hue, "red") for hue in ("white", "red", "blue", "green")], [0, 1, 2 * n + 3, 0])
        for states, own, other in ((ones, "red", "blue"), (others, "blue", "red")):
            for (w, f), state in states.items():
                self.assertEqual(reader(state, "green", "red"), 0)
                self.assertEqual(reader(state, own, "red"), states[(0, 0)])
                there = (others if states is ones else ones)[(0, 0)]
                self.assertEqual(reader(state, other, "red"), -1 if f else there)
                self.assertEqual(reader(state, "white", "white"), states[(w + 1, f)] if w < n else 0)
                self.assertEqual(reader(state, "white", "blue"), states[(w + 1, 1)] if w < n else 0)

    def test_broken_at(self):
        reader = Reader(("shut", "across", "red", "blue", 1))
        seen = ("red", "white", "blue", "white", "red")
        self.assertEqual(reader.broken_at(seen, ("red", "red", "red", "red", "red")), 2)
        self.assertEqual(reader.broken_at(list(seen), ["red", "white", "red", "red", "red"]), 4)
        self.assertIsNone(reader.broken_at(seen, ("red", "white", "red", "white", "red")))
        self.assertIsNone(reader.broken_at((), ()))
        self.assertEqual(Reader(("never", "red")).broken_at(("red",), ("white",)), 0)
        self.assertIsNone(Reader(("thick", "across", "white", 4)).broken_at(("red", "white", "white"), ("red",) * 3))

    def test_readers_against_claims(self):
        chance = rng(13)
        claims = [("never", "red")] + [("thick", "across", hue, n) for hue in ("red", "white") for n in (2, 3, 4)]
        claims += [("narrow", "across", "red", n) for n in (1, 2, 3, 4)]
        claims += [("shut", "across", one, other, n) for one, other in (("red", "blue"), ("blue", "red")) for n in (1, 2, 3)]
        for _ in range(500):
            many = chance.randint(0, 9)
            hues = ("white", "white", "blue", "red", "green")
            seen = tuple([chance.choice(hues) for _ in range(many)]) + ("white",) * 5
            tape = tuple([chance.choice(hues) for _ in range(many)]) + ("white",) * 5
            for claim in claims:
                kept = holds(claim, Picture.of((tape,)), Picture.of((seen,)))
                self.assertIs(Reader(claim).broken_at(seen, tape) is None, kept, (claim, seen, tape))

    def test_two_readers_by_turns(self):
        one, other = Reader(("narrow", "across", "red", 1)), Reader(("narrow", "across", "red", 2))
        for _ in range(2):
            self.assertEqual((one(1, "red", "red"), other(1, "red", "red")), (-1, 2))


if __name__ == "__main__":
    unittest.main()
