"""What the points of the document say of one another, on drawn examples."""

import pathlib
import re
import unittest

from strayplates.band import Band, tape_seen
from strayplates.book import Book
from strayplates.bookpair import BookPair
from strayplates.cases import Cases
from strayplates.course import Course
from strayplates.designverdict import DesignVerdict
from strayplates.errors import TooMany
from strayplates.hand import Hand
from strayplates.jobpair import JobPair
from strayplates.keep import Keep
from strayplates.known import Known
from strayplates.layout import Layout
from strayplates.leastsights import LeastSights
from strayplates.lost import Lost
from strayplates.patch import Patch
from strayplates.patchlean import lean_patch
from strayplates.patchpair import PatchPair
from strayplates.picture import Picture
from strayplates.plan import Plan
from strayplates.remake import Remake
from strayplates.rulework import lean_book
from strayplates.runverdict import RunVerdict, waste
from strayplates.sheetverdict import SheetVerdict
from strayplates.tapepair import TapePair
from strayplates.tapeverdict import TapeVerdict
from strayplates.tells import Tells
from strayplates.toldback import ToldBack
from strayplates.verdict import Verdict
from strayplates.within import Within, same_tapes
from tests.test_band_readers import random_tape
from tests.test_course import LOOKS, WISHES, random_hand, random_press
from tests.test_known import random_game
from tests.test_lost import random_job
from tests.test_patch import changed_patch, random_patch
from tests.test_plan import random_plan
from tests.test_tapepair import changed_book
from tests.test_verdicts import CLAIMS, random_band
from tests.tools import plain_book, random_book, random_picture, rng, two_press

PALETTE = ("blue", "red")
INKS = ("rose", "sky", "sun")


def small_book(chance, colours):
    """A book that is often alike small books, and whose trees are small."""
    return random_book(chance, ("white", *colours), INKS, 3, 1)


class BooksTest(unittest.TestCase):
    def test_alike_books_are_so_on_all_bands(self):
        chance = rng(701)
        alike = 0
        for _ in range(150):
            band = random_band(chance)
            first = random_book(chance, ("white", *band.colours), INKS, 5, 2)
            second = changed_book(chance, first, band.colours)
            if BookPair(first, second, band.colours):
                alike += 1
                self.assertTrue(TapePair(band, first, second))
            lean = lean_book(first, band.colours)
            self.assertTrue(BookPair(first, lean, band.colours))
            self.assertTrue(TapePair(band, first, lean))
            claim = chance.choice(CLAIMS)
            self.assertEqual(self.story(band, first, claim), self.story(band, lean, claim))
        self.assertGreater(alike, 20)

    def story(self, band, book, claim):
        try:
            return TapeVerdict(band, book, claim).story
        except TooMany:
            return "many"

    def test_books_judged_for_all_pages_and_on_tapes(self):
        """What holds for all pages holds for all tapes, as long as the plates do not wander."""
        chance = rng(703)
        held = 0
        for _ in range(300):
            boxes = chance.choice(((), ((0, 0, 0, 1),), ((0, 0, 1, 0),), ((0, 1, 0, 1),)))
            press = two_press(boxes, (0, len(boxes)))
            book = chance.choice((plain_book(), small_book(chance, PALETTE)))
            claim = chance.choice([claim for claim in CLAIMS if claim[0] != "narrow"] + [("narrow", "across", "green", 1)])
            try:
                cases = Cases(press, book, PALETTE, claim)
            except TooMany:
                continue
            tapes = TapeVerdict(Band(press, PALETTE, pace=0), book, claim)
            if cases:
                held += 1
                self.assertTrue(tapes, (boxes, book.rules, claim))
            if not tapes:
                self.assertFalse(cases)
        self.assertGreater(held, 20)

    def test_tapes_are_pages(self):
        """What is seen along a tape is the row 0 of what the job of the page shows, if the plates do not wander."""
        chance = rng(705)
        for _ in range(100):
            band = random_band(chance)
            book = random_book(chance, ("white", *band.colours), INKS, 5, 2)
            tape, side = random_tape(chance, band, chance.randint(0, 6)), chance.choice(band.lies)
            seen = tape_seen(band, book, tape, (side,) * (len(tape) + band.depth))
            lie = tuple([(0, number) for number in side])
            picture = book.made(band.press, Picture.of((tape,))).shown(lie)
            self.assertEqual(seen, tuple([picture[(0, column)] for column in range(-band.left - 1, len(tape) + band.right + 1)]))

    def test_tapes_that_are_told_part_other_tapes(self):
        """If kept plates tell the tape, pages of one row that part have jobs that part."""
        chance = rng(707)
        told = 0
        for _ in range(200):
            book = random_book(chance, ("white", *PALETTE), ("sky", "sun"), 5, 2) + chance.choice((plain_book(), Book()))
            if Tells(book, PALETTE, ("sky", "sun")):
                told += 1
                tapes = [tuple([chance.choice(("white", *PALETTE)) for _ in range(4)]) for _ in range(2)]
                jobs = [book.made(two_press(), Picture.of((tape,))) for tape in tapes]
                rows = [[[cell for cell in plate if cell[0] == 0] for plate in job.plates] for job in jobs]
                self.assertEqual(rows[0] == rows[1], Picture.of((tapes[0],)) == Picture.of((tapes[1],)))
        self.assertGreater(told, 20)


class DesignsTest(unittest.TestCase):
    def test_designs_that_are_all_tapes(self):
        chance = rng(709)
        met = {True: 0, False: 0}
        for _ in range(80):
            band, claim = random_band(chance), chance.choice(CLAIMS)
            free = Band(band.press, band.colours, pace=band.pace)
            book = random_book(chance, ("white", *band.colours), INKS, 5, 2)
            names = dict(zip("abcd", ("white", *band.colours)))
            every = Plan([(name, (hue,)) for name, hue in names.items()], [(one, two) for one in names for two in names],
                         tuple(names), tuple(names))
            self.assertTrue(ToldBack(every))
            try:
                tapes, designs = TapeVerdict(free, book, claim), DesignVerdict(free, book, every, claim)
            except TooMany:
                continue
            self.assertIs(bool(tapes), bool(designs))
            met[bool(tapes)] += 1
            some = random_plan(chance, ("white", *band.colours), 3)
            if tapes:
                self.assertTrue(DesignVerdict(free, book, some, claim))
            self.assertTrue(Within(some, every))
        self.assertGreater(min(met.values()), 10)

    def test_what_holds_for_a_plan_holds_within_it(self):
        chance = rng(711)
        within = 0
        for _ in range(150):
            first, second = random_plan(chance, ("red", "blue"), 2, 0.6), random_plan(chance, ("red", "blue"), 2, 0.9)
            if not Within(first, second):
                continue
            within += 1
            band, claim = Band(two_press(), PALETTE), chance.choice(CLAIMS)
            book = random_book(chance, ("white", *PALETTE), INKS, 5, 2)
            verdicts = [bool(DesignVerdict(band, book, plan, claim)) for plan in (first, second)]
            self.assertTrue(verdicts[0] or not verdicts[1])
            if same_tapes(first, second):
                self.assertIs(verdicts[0], verdicts[1])
        self.assertGreater(within, 20)


class RunsTest(unittest.TestCase):
    def test_a_hand_that_keeps_a_wish(self):
        """Where a course keeps a wish, its looks and turns are enough, also with more looks and turns."""
        chance = rng(713)
        kept = 0
        for _ in range(250):
            job, _, turns, page, wish, pace, first = random_game(chance)
            hand = random_hand(chance, job.press, most=3)
            course = Course(job, hand, pace=pace, start=first[0])
            if not RunVerdict(course, page, wish):
                continue
            kept += 1
            self.assertEqual(waste(course, page, wish), 0)
            still = tuple([(0, 0) for _ in job.press.boxes])
            every = tuple(dict.fromkeys([still, *[turn for _, turn in hand], *turns]))[:8]
            try:
                known = Known(job, LOOKS, every, pace=pace, first=first[:1])
            except TooMany:
                continue
            if set(turn for _, turn in hand) <= set(every):
                self.assertTrue(Keep(known, page, wish))
                self.assertIn((0, 1, 2, 3), LeastSights(job, (*LOOKS, (8, 8)), every, page, wish, pace=pace, first=first[:1]))
        self.assertGreater(kept, 30)

    def test_good_lies_and_verdicts(self):
        chance = rng(715)
        for _ in range(60):
            press = random_press(chance)
            page = random_picture(chance, ("red", "blue"), 2, 3)
            job, wish = plain_book().made(press, page), chance.choice(WISHES)
            verdict = Verdict(job, page, wish)
            course = Course(job, Hand(press, ()), pace=2, start=chance.randrange(len(press.lies)))
            # Without a hand, a press drifts to all lies that are near one another, as those of a box are.
            self.assertIs(bool(RunVerdict(course, page, wish)), bool(verdict))
            blind = Known(job, (), (tuple([(0, 0) for _ in press.boxes]),), pace=2)
            self.assertIs(bool(Keep(blind, page, wish)), bool(verdict))

    def test_sheets_with_one_copy(self):
        chance = rng(717)
        for _ in range(60):
            press = random_press(chance)
            page = random_picture(chance, ("red", "blue"), 2, 3)
            job, wish = plain_book().made(press, page), chance.choice(WISHES)
            if any(not (0 <= row < 2 and 0 <= column < 3) for plate in job.plates for row, column in plate):
                continue
            verdict = Verdict(job, page, wish)
            sheet = SheetVerdict(Layout(2, 3, ((7, 9, False),)), job, page, wish, margin=3)
            self.assertEqual((sheet.lie, sheet.claim, sheet.cell), (verdict.lie, verdict.claim, verdict.cell))
            self.assertEqual(sheet.which, None if verdict else 0)


class PlatesTest(unittest.TestCase):
    def test_lost_plates_that_can_be_remade(self):
        chance = rng(719)
        remade = 0
        for _ in range(150):
            press = random_press(chance)
            number = chance.randrange(len(press))
            job = random_job(chance, press)
            lie = chance.choice(press.lies)
            lost = Lost(job, number, (job.shown(lie),))
            self.assertIs(lost.fits(job.plates[number]), True)
            self.assertIn((press.number_of(lie),), lost.choices)
            if Remake(press, number):
                remade += 1
                plate = Remake(press, number).remade(job, lie, job.shown(lie))
                self.assertEqual(plate, job.plates[number])
                # With a single lie, nothing is open.
                if len(press.lies) == 1:
                    self.assertEqual((lost.sure, lost.open_cells), (plate, ()))
        self.assertGreater(remade, 30)

    def test_alike_patches_make_alike_jobs(self):
        chance = rng(721)
        alike = 0
        for _ in range(150):
            first = random_patch(chance, 4)
            second = changed_patch(chance, first)
            self.assertTrue(PatchPair(first, lean_patch(first)))
            if PatchPair(first, second):
                alike += 1
                job = random_job(chance, two_press())
                jobs = [job.with_plate(1, patch(job.plates[1])) for patch in (first, second)]
                self.assertTrue(JobPair(*jobs))
        self.assertGreater(alike, 30)
        self.assertEqual(Patch()(plain_book().made(two_press(), Picture()).plates[0]).cells, ())


class ReadmeTest(unittest.TestCase):
    def test_the_examples(self):
        text = (pathlib.Path(__file__).resolve().parent.parent / "README.md").read_text(encoding="utf-8")
        told = []
        code = "\n".join(re.findall(r"```python\n(.*?)```", text, re.S))
        exec(code, {"print": lambda *words: told.append(words)})
        self.assertGreater(len(told), 3)


if __name__ == "__main__":
    unittest.main()
