"""Promise [1]: what is handed in does not change, and objects stay as they were made."""

import copy
import unittest

from strayplates.asking import read_told, want_told
from strayplates.band import Band, tape_seen
from strayplates.bench import Bench, tried
from strayplates.book import Book
from strayplates.bookpair import BookPair, judge_books
from strayplates.cases import Cases, judge_cases
from strayplates.claims import breach, holds, is_claim, places
from strayplates.course import Course
from strayplates.cuts import first_cut
from strayplates.designverdict import DesignVerdict, judge_designs
from strayplates.dockettext import read_docket, read_picture, read_plate, write_docket
from strayplates.drawing import Drawing, hidden, lean_drawing
from strayplates.errors import PlateError
from strayplates.forms import forms, met
from strayplates.hand import Hand, turned_lie
from strayplates.job import Job
from strayplates.keep import Keep, judge_keep
from strayplates.keptinks import KeptInks
from strayplates.known import Known
from strayplates.layout import Layout, opposite
from strayplates.leastsights import LeastSights
from strayplates.looks import Looks
from strayplates.lost import Lost
from strayplates.orders import Orders
from strayplates.pagebars import PageBars
from strayplates.pagetext import read_page
from strayplates.palette import Palette, ways
from strayplates.passplans import PassPlans
from strayplates.patch import Patch
from strayplates.patchpair import PatchPair, judge_patches
from strayplates.picture import Picture
from strayplates.plan import Plan
from strayplates.plate import Plate
from strayplates.press import Press
from strayplates.reach import Reach
from strayplates.readers import Reader
from strayplates.remake import Remake
from strayplates.remedies import Remedies
from strayplates.rulework import idle_rules, lean_book, least_pages, needless_rules
from strayplates.runverdict import RunVerdict, judge_run, waste
from strayplates.sheetverdict import SheetVerdict
from strayplates.shelf import Shelf
from strayplates.shelfpair import ShelfPair, judge_shelves
from strayplates.shelftext import read_book, read_press, read_shelf
from strayplates.stacks import Stacks, judge_stacks
from strayplates.tapebars import TapeBars
from strayplates.tapepair import TapePair, judge_tape_pair
from strayplates.tapeverdict import TapeVerdict, judge_tapes
from strayplates.tells import Tells, judge_tells
from strayplates.toldback import ToldBack, judge_told_back
from strayplates.traps import Traps, judge_traps
from strayplates.verdict import Verdict
from strayplates.within import Within, judge_within
from strayplates.words import is_cell, is_palette, neighbours
from tests.tools import SKY, SUN, Checks, listed, plain_book, two_press

PALETTE = ["blue", "red"]
SHUT = ["shut", "across", "yellow", "blue", 1]
BARS = [["blue", "red"]]
MOTIFS = [["a", ["red", "blue"]], ["b", ["white"]]]
STAMPS = [["dot", ["x"]]]
DEEDS = [["box", 0, 0, 2, 2, "red"], ["again", 2, 0, 1, [["put", "dot", 0, 0, "blue"]]]]
STEPS = [["set", 0, 1], ["take", 0, 0, 1, 1], ["grow", 0, 1]]
LOOKS = [[0, 0], [0, 1]]
COPIES = [[0, 0, False], [3, 3, True]]


def state(thing):
    """All that a thing holds, at any depth."""
    if isinstance(thing, (list, tuple)):
        return type(thing), [state(part) for part in thing]
    if isinstance(thing, dict):
        return dict, [(state(key), state(value)) for key, value in thing.items()]
    if type(thing).__module__.startswith("strayplates."):
        return type(thing), state(vars(thing))
    return thing


class ArgumentsTest(unittest.TestCase, Checks):
    def setUp(self):
        self.press, self.book = two_press(), plain_book()
        self.band = Band(self.press, PALETTE, bars=BARS)
        self.plan = Plan(MOTIFS, [["a", "b"]], ["a"], ["b"])
        self.page = Picture([[0, 0, "red"], [0, 1, "blue"]])

    def calls(self):
        """Each call with lists wherever a tuple can be passed."""
        press, book, band, plan, page = self.press, self.book, self.band, self.plan, self.page
        trees = listed(Cases(press, book, PALETTE, SHUT, bars=BARS).table)
        tapes = listed(TapeVerdict(band, Book(), ["never", "red"]).table)
        designs = listed(DesignVerdict(band, Book(), plan, ["never", "red"]).table)
        return (
            (is_cell, [0, 1]), (is_palette, PALETTE), (neighbours, [0, 1]), (is_claim, SHUT),
            (Shelf, listed([SUN, SKY])), (press.shelf.stack, ["sun", "sky"]),
            (Picture, [[0, 0, "red"]]), (Picture.of, [["red", "white"], []]), (page.__getitem__, [0, 1]),
            (Plate, [[0, 0], [0, 1]]), (Press, press.shelf, [["sun", 0]], [[0, 0, 0, 1]]),
            (press.off, [[0, 1]]), (press.number_of, [[0, 1]]), (press.shift, 1, [[0, 1]]),
            (Job, press, [Plate(), Plate([[0, 0]])]), (Job(press, [Plate(), Plate()]).shown, [[0, 1]]),
            (Job(press, [Plate(), Plate()]).printed, [0, 0], [[0, 1]]),
            (holds, SHUT, page, page), (places, SHUT, page, page), (breach, [SHUT, ["true"]], page, page),
            (Book, [["red", ["sun"]], ["blue", "near", "red", ["sky"]]]), (book.counting, page, [0, 0]),
            (book.inks_at, page, [0, 0]), (Drawing, STAMPS, DEEDS),
            (forms, SHUT, PALETTE), (met, listed(forms(SHUT, PALETTE)[0]), page, page),
            (read_told, book, [[0, 0, "red"]], [0, 0]),
            (want_told, press, book, [[0, 1]], [[0, 0, "red"]], ["shows", [0, 0], "yellow"]),
            (judge_cases, press, book, PALETTE, SHUT, trees), (PageBars, press, book, PALETTE, SHUT, BARS),
            (band.onward, ["white"] * 3, [0]), (band.after, ["white"] * 3, ["red", [0]]),
            (band.seen, book, ["white"] * 3, ["red", [0]]), (band.with_bars, ["red", "red"]),
            (tape_seen, band, book, ["red"], [[0]] * 4), (Reader, ["never", "red"]),
            (Reader(["never", "red"]).broken_at, ["blue", "red"], ["red", "red"]),
            (judge_tapes, band, Book(), ["never", "red"], tapes),
            (Plan, MOTIFS, [["a", "b"]], ["a"], ["b"]), (plan.tape_of, ["a", "b"]), (plan.follows, [0, 1]),
            (plan.colour_of, [0, 1]), (plan.without, ["a", "b"]), (plan.__contains__, ["a", "b"]),
            (judge_designs, band, Book(), plan, ["never", "red"], designs), *self.later_calls(), *self.run_calls(),
            *self.sheet_calls())

    def later_calls(self):
        press, book, page = self.press, self.book, self.page
        job, shelf, wish, menu = book.made(press, page), press.shelf, [SHUT, ["true"]], [[0, 0, 1], [1, 0, 0]]
        rules = [["blue", "left", "red", ["sky", "sun"]]]
        docket = list(write_docket(job, page, wish))
        stacks, shelves = listed(Stacks(shelf).table), listed(ShelfPair(shelf, shelf).table)
        traps = Traps(job, page, wish, menu)
        return (
            (read_page, ["page", "box 0 0 1 1 red", "end"]), (read_docket, docket), (read_shelf, docket[:5]),
            (read_press, docket[:10]), (read_book, ["book", "rule red sun", "end"]),
            (read_picture, ["picture", "row 0 0 red", "end"]), (read_plate, ["plate", "cells 0 1", "end"]),
            (write_docket, job, page, wish), (judge_stacks, shelf, stacks), (judge_shelves, shelf, shelf, shelves),
            (ways, shelf, [1, 0], "yellow"), (Palette, shelf, ["green", "blue"]), (Verdict, job, page, wish),
            (Traps, job, page, wish, menu), (traps.served, [0, 1]), (traps.done, [[0, 0, 1]]),
            (judge_traps, job, page, wish, menu, listed(traps.table)),
            (Looks, job, [[0, 0], [0, 1]], [0, 1]), (BookPair, book, Book(), PALETTE),
            (judge_books, book, book, PALETTE, listed(BookPair(book, book, PALETTE).table)),
            (least_pages, book, PALETTE), (idle_rules, book, PALETTE), (needless_rules, book, PALETTE),
            (lean_book, book, PALETTE), (Remedies, press, book, PALETTE, SHUT, rules),
            (Remedies(press, book, PALETTE, SHUT, rules).mended, [0]),
            (PassPlans, shelf, ["sun", "sky"], [0, 0, 0, 1], 2, book, PALETTE, SHUT),
            (PassPlans(shelf, ["sun", "sky"], [0, 0, 0, 1], 2, book, PALETTE, SHUT).press_of, [0, 1]),
            (Orders, press, book, PALETTE, SHUT), (Orders(press, book, PALETTE, SHUT).press_of, [1, 0]),
            (Reach, book, "sun", PALETTE), (Reach(book, "sun", PALETTE).__contains__, [0, 0]),
            (lambda *told: Bench(press, book, page).recolour(*told), [0, 0, "blue"], [3, 3, "red"]),
            (tried, Bench(press, book, page), [[0, 0, "blue"]], [[1, 1, "red"], [0, 0, "red"]]))

    def run_calls(self):
        press, book, band, plan, page = self.press, self.book, self.band, self.plan, self.page
        job, wish = book.made(press, page), [SHUT, ["true"]]
        patch = Patch(STEPS)
        rows = [[["yellow", None], [[0, 1]]], [[None, "white"], [[0, -1]]]]
        hand = Hand(press, LOOKS, rows)
        course = Course(job, hand)
        return (
            (Patch, STEPS), (patch.images, [0, 0]), (judge_patches, patch, patch, listed(PatchPair(patch, patch).table)),
            (judge_tape_pair, band, book, book, listed(TapePair(band, book, book).table)),
            (TapeBars, band, book, ["never", "red"], [["red", "red"], ["blue", "blue"]]),
            (TapeBars(band, book, ["never", "tan"], [["red", "red"]]).__contains__, [0]),
            (judge_told_back, plan, listed(ToldBack(plan).table)),
            (judge_within, plan, plan, listed(Within(plan, plan).table)),
            (Hand, press, LOOKS, rows), (hand, ["yellow", "blue"]), (turned_lie, press, 0, [[0, 1]]),
            (course.is_run, [0, 1, 0]), (lambda told: tuple(course.sheets(told)), [0, 1, 0]),
            (RunVerdict, course, page, wish), (judge_run, course, page, wish, [0, 1]), (waste, course, page, wish))

    def sheet_calls(self):
        press, book, page = self.press, self.book, self.page
        job, wish, turns = book.made(press, page), [SHUT, ["true"]], [[[0, 0]], [[0, -1]]]
        known = Known(job, LOOKS, turns)
        keep = Keep(known, page, wish)
        pull = job.true_picture
        lost = Lost(job, 0, [pull])
        covered = Lost(Job(Press(Shelf([SUN, ["lid", "tan", []]]), [["sun", 0], ["lid", 0]]), [Plate(), Plate([[0, 0]])]), 0,
                       [Picture([[0, 0, "tan"]])])
        tells = listed(Tells(book, PALETTE, ["sky", "sun"]).table)
        layout = Layout(1, 2, COPIES)
        return (
            (lambda *told: Known(job, *told, first=[0, 1]), LOOKS, turns),
            (lambda *told: judge_keep(job, *told), LOOKS, turns, page, wish, listed(keep.table)),
            (lambda *told: LeastSights(job, *told, first=[0]), LOOKS, turns, page, wish), (Keep, known, page, wish),
            (LeastSights(job, LOOKS, turns, page, [["never", "tan"]]).__contains__, [0]),
            (Lost, job, 0, [pull, pull]), (lost.fits, job.plates[0]), (covered.with_cell, [0, 0]), (covered.without_cell, [0, 0]),
            (Remake(press, 0).remade, job, [[0, 1]], job.shown([[0, 1]])), (Tells, book, PALETTE, ["sky"]),
            (judge_tells, book, PALETTE, ["sky", "sun"], None, tells), (KeptInks, book, PALETTE, ["sky", "sun"]),
            (KeptInks(book, PALETTE, ["sky", "sun"]).__contains__, [0, 1]), (Layout, 1, 2, COPIES), (opposite, [[1, -2]]),
            (SheetVerdict, layout, job, page, wish), (first_cut, layout, [0, 1]))

    def test_what_is_passed_stays_as_it_is(self):
        for call, *told in self.calls():
            kept = [state(thing) for thing in told]
            owner = getattr(call, "__self__", None)
            if owner is None or isinstance(owner, type):
                owner = ()
            own = {word: state(thing) for word, thing in getattr(owner, "__dict__", {}).items() if not word.startswith("_")}
            call(*told)
            self.assertEqual([state(thing) for thing in told], kept)
            for word, thing in own.items():
                self.assertEqual(state(getattr(owner, word)), thing)

    def test_the_same_asked_again(self):
        """What was asked between two calls, and of which object, makes no difference."""
        first = [state(call(*told)) for call, *told in self.calls()]
        calls = self.calls()
        second = [state(call(*told)) for call, *told in reversed(calls)][::-1]
        third = [state(call(*told)) for call, *told in calls]
        for one, two, three in zip(first, second, third):
            self.assertEqual(one, two)
            self.assertEqual(one, three)

    def test_tuples_bring_the_same(self):
        def tuples(thing):
            return tuple([tuples(part) for part in thing]) if isinstance(thing, list) else thing

        for call, *told in self.calls():
            one, other = call(*told), call(*[tuples(thing) for thing in told])
            if isinstance(one, (tuple, str, int, bool, type(None), Picture, Plate, Press, Job, Book, Drawing, Plan, Shelf,
                                Patch, Hand, Layout)):
                self.assertEqual(one, other)
                self.assert_tuples(one)
            else:
                self.assertEqual(state(one), state(other))

    def test_objects_that_are_asked_by_turns(self):
        still = Band(self.press, PALETTE, pace=0)
        other = Plan(MOTIFS, [["b", "a"]], ["b"], ["a"])
        drawings = Drawing(STAMPS, DEEDS), Drawing(STAMPS, DEEDS[:1])
        told = []
        for _ in range(2):
            told.append((
                self.band.onward(self.band.beginning, (1,)), still.onward(still.beginning, (1,)),
                list(self.plan.designs(3)), list(other.designs(3)), self.plan.live, other.follows((-1, 0)),
                drawings[0].drawn().cells, drawings[1].drawn().cells, hidden(drawings[0]), drawings[0].unrolled(),
                lean_drawing(drawings[0]).deeds, self.press.lies, self.book.made(self.press, self.page).plates[0].cells,
                Cases(self.press, self.book, PALETTE, SHUT).broken_page.cells, tuple(self.page), tuple(self.book)))
        self.assertEqual(told[0], told[1])
        self.assertNotEqual(told[0][0], told[0][1])

    def test_nothing_has_changed_behind_an_error(self):
        kept = [copy.deepcopy(vars(thing)) for thing in (self.plan, self.band.press.shelf, self.book)]
        for call, *told in (
                (self.plan.tape_of, ("a", "tree")), (self.plan.without, ("a", "b"), ("a", "a")),
                (self.press.shelf.stack, ("sun", "moon")), (self.book.but, 7), (self.band.with_bars, ("a", "b")),
                (self.press.shift, 9, None), (tape_seen, self.band, self.book, ("red", "tan"), ())):
            with self.assertRaises(PlateError):
                call(*told)
        self.assertEqual([vars(thing) for thing in (self.plan, self.band.press.shelf, self.book)], kept)

    def test_a_string_is_never_taken_for_a_tuple(self):
        self.assertIs(is_palette("abc"), False)
        self.assertIs(is_cell("12"), False)
        self.assertIs(is_claim("true"), False)
        self.assertIs("ab" in self.plan, False)
        self.assertIs("ab" in self.page, False)


if __name__ == "__main__":
    unittest.main()
