import itertools
import unittest

from strayplates.claims import breach
from strayplates.cuts import Cuts, first_cut
from strayplates.errors import BadJob, BadLayout, BadWish, NoCopy
from strayplates.job import Job
from strayplates.layout import Layout, opposite
from strayplates.picture import Picture
from strayplates.plate import Plate
from strayplates.press import Press
from strayplates.shelf import Shelf
from strayplates.sheetverdict import SheetVerdict
from strayplates.verdict import Verdict
from tests.test_course import WISHES, random_press
from tests.tools import ODD, ROSE, SKY, SUN, Checks, listed, plain_book, random_picture, rng, two_press

WHEEL = ((0, 1, False), (1, 4, True), (4, 3, False), (3, 0, True))
COPIES = ((0, 0, False), (0, 5, True), (4, 1, False))


def cells_of(layout, copy, margin=0):
    """The cells of the window of a copy."""
    top, left, _ = copy
    return {(row, column) for row in range(top - margin, top + layout.height + margin)
            for column in range(left - margin, left + layout.width + margin)}


def placed(layout, copy, cell):
    """The cell of the sheet at which a cell of the page lies."""
    top, left, turned = copy
    row, column = cell
    if turned:
        row, column = layout.height - 1 - row, layout.width - 1 - column
    return top + row, left + column


def random_layout(chance, most=4, height=None, width=None, reach=10, often=0.5):
    height, width = height or chance.randint(1, 3), width or chance.randint(1, 3)
    copies, met = [], set()
    for _ in range(chance.randint(1, most)):
        copy = (chance.randint(0, reach), chance.randint(0, reach), chance.random() < often)
        cells = {(copy[0] + row, copy[1] + column) for row in range(height) for column in range(width)}
        if not cells & met:
            copies.append(copy)
            met |= cells
    return Layout(height, width, copies)


def random_job(chance, press, layout):
    cells = list(itertools.product(range(layout.height), range(layout.width)))
    return Job(press, [Plate([cell for cell in cells if chance.random() < 0.6]) for _ in press])


class LayoutTest(unittest.TestCase, Checks):
    def test_attributes(self):
        layout = Layout(3, 4, listed(COPIES))
        self.assertEqual((layout.height, layout.width, layout.copies), (3, 4, COPIES))
        self.assertEqual((len(layout), tuple(layout), [layout[k] for k in range(3)]), (3, COPIES, list(COPIES)))
        self.assert_tuples(layout.copies)
        self.assertTrue(layout == Layout(3, 4, COPIES))
        for other in (Layout(3, 4, COPIES[:2]), Layout(2, 4, COPIES), Layout(3, 3, COPIES), Layout(3, 4, COPIES[::-1]),
                      Layout(3, 4, (*COPIES[:2], (4, 1, True)))):
            self.assertTrue(layout != other)
        for thing in ODD:
            self.assertIs(layout == thing, False)
        for thing in (-1, 3, True, None, "0", (0,), slice(0, 1)):
            self.assert_error(NoCopy, {"number": thing}, layout.__getitem__, thing)

    def test_errors(self):
        eight = tuple([(0, 5 * k, False) for k in range(8)])
        self.assertEqual(len(Layout(3, 4, eight)), 8)
        for thing in (None, (), [], 3, "ab", {}, (*eight, (9, 9, True)), (None,) * 9):
            self.assert_error(BadLayout, {"number": -1}, Layout, 3, 4, thing)
        for size in (0, 13, -1, True, None, "3", 3.0, (3,)):
            self.assert_error(BadLayout, {"number": -1}, Layout, size, 4, (None,))
            self.assert_error(BadLayout, {"number": -1}, Layout, 3, size, (None,))
        for copy in (None, 3, "abc", (), (4, 4), (4, 4, False, 0), (61, 0, False), (0, 61, True), (-1, 9, False), (9, -1, False),
                     (True, 9, False), (9, False, True), (9, 9, 0), (9, 9, 1), (9, 9, None), (9, 9, "x"), ("9", 9, True),
                     (0, 0, True), (2, 3, False), (2, 0, True), (0, 8, False), [1, 1, False], (3, 8, True)):
            self.assert_error(BadLayout, {"number": 2}, Layout, 3, 4, ((0, 0, False), (1, 5, True), copy, None))
        # Boxes that only touch, and the greatest numbers.
        self.assertEqual(len(Layout(12, 12, ((0, 0, False), (12, 0, True), (0, 12, True), (60, 60, False)))), 4)
        self.assertEqual(len(Layout(1, 1, ((0, 0, False), (0, 1, True), (1, 0, True), (60, 60, False)))), 4)

    def test_overlapping_boxes(self):
        chance = rng(591)
        met = {True: 0, False: 0}
        for _ in range(300):
            height, width = chance.randint(1, 5), chance.randint(1, 5)
            copies = [(chance.randint(0, 9), chance.randint(0, 9), chance.random() < 0.5) for _ in range(chance.randint(1, 4))]
            boxes = [{(top + row, left + column) for row in range(height) for column in range(width)} for top, left, _ in copies]
            bad = [k for k in range(len(copies)) if any(boxes[k] & boxes[j] for j in range(k))]
            met[bool(bad)] += 1
            if bad:
                self.assert_error(BadLayout, {"number": bad[0]}, Layout, height, width, copies)
            else:
                layout = Layout(height, width, copies)
                for margin in range(4):
                    windows = [cells_of(layout, copy, margin) for copy in copies]
                    apart = not any(one & other for one, other in itertools.combinations(windows, 2))
                    self.assertIs(layout.apart(margin), apart)
        self.assertGreater(min(met.values()), 50)

    def test_sheets(self):
        layout = Layout(2, 3, ((0, 0, False), (0, 3, True), (5, 5, False)))
        job = Job(two_press(), (Plate(((0, 0), (0, 1))), Plate(((1, 2),))))
        sheet = layout.sheet(job)
        self.assertEqual(sheet.press, job.press)
        self.assertEqual(sheet.plates[0].cells, ((0, 0), (0, 1), (1, 4), (1, 5), (5, 5), (5, 6)))
        self.assertEqual(sheet.plates[1].cells, ((0, 3), (1, 2), (6, 7)))
        for cell in ((2, 0), (0, 3), (-1, 0), (0, -1)):
            for number in (0, 1):
                plates = [Plate(), Plate()]
                plates[number] = Plate((cell,))
                self.assert_error(BadJob, {"number": number}, layout.sheet, Job(two_press(), plates))
        both = Job(two_press(), (Plate(((2, 2),)), Plate(((3, 3),))))
        self.assert_error(BadJob, {"number": 0}, layout.sheet, both)
        empty = layout.sheet(Job(two_press(), (Plate(), Plate())))
        self.assertEqual(empty.plates, (Plate(), Plate()))
        # A sheet can lie beyond what a plate can be told with.
        far = Layout(12, 12, ((60, 60, True),)).sheet(Job(two_press(), (Plate(((0, 0),)), Plate())))
        self.assertEqual(far.plates[0].cells, ((71, 71),))

    def test_views(self):
        layout = Layout(2, 3, ((1, 1, False), (1, 4, True)))
        sheet = Picture(((0, 1, "red"), (1, 1, "tan"), (1, 3, "pink"), (1, 4, "blue"), (2, 6, "green"), (4, 4, "red")))
        self.assertEqual(layout.view(sheet, 0).cells, ((0, 0, "tan"), (0, 2, "pink")))
        self.assertEqual(layout.view(sheet, 0, margin=1).cells, ((-1, 0, "red"), (0, 0, "tan"), (0, 2, "pink"), (0, 3, "blue")))
        self.assertEqual(layout.view(sheet, 1).cells, ((0, 0, "green"), (1, 2, "blue")))
        self.assertEqual(layout.view(sheet, 1, margin=1).cells, ((0, 0, "green"), (1, 2, "blue"), (1, 3, "pink")))
        self.assertEqual(layout.view(sheet, 1, margin=2).cells, ((-2, 2, "red"), (0, 0, "green"), (1, 2, "blue"), (1, 3, "pink")))
        self.assertEqual(len(layout.view(sheet, 0, margin=6)), 6)
        self.assertEqual(layout.view(Picture(), 0, margin=6), Picture())
        for thing in (-1, 2, True, None, "0"):
            self.assert_error(NoCopy, {"number": thing}, layout.view, sheet, thing)

    def test_opposite(self):
        for lie, other in (((), ()), (((0, 0),), ((0, 0),)), ([[1, -2], [0, 3]], ((-1, 2), (0, -3)))):
            self.assertEqual(opposite(lie), other)
            self.assert_tuples(opposite(lie))
        press = two_press(((1, 0, 2, 3), (0, 1, 1, 0)), (1, 2))
        self.assertEqual(sorted([opposite(lie) for lie in press.lies]), sorted(press.mirror.lies))

    def test_against_cells(self):
        chance = rng(593)
        for _ in range(150):
            layout, press = random_layout(chance), random_press(chance)
            job = random_job(chance, press, layout)
            sheet = layout.sheet(job)
            for plate, whole in zip(job.plates, sheet.plates):
                cells = {placed(layout, copy, cell) for copy in layout for cell in plate}
                self.assertEqual(whole.cells, tuple(sorted(cells)))
                self.assertEqual(len(whole), len(plate) * len(layout))
            picture, margin = sheet.shown(chance.choice(press.lies)), chance.randint(0, 6)
            for number, copy in enumerate(layout):
                view = layout.view(picture, number, margin=margin)
                told = [(row, column, picture[placed(layout, copy, (row, column))])
                        for row in range(-margin, layout.height + margin) for column in range(-margin, layout.width + margin)]
                self.assertEqual(view.cells, tuple([triple for triple in told if triple[2] != "white"]))

    def test_views_of_copies_that_are_apart(self):
        chance = rng(595)
        turned = 0
        for _ in range(120):
            press = random_press(chance)
            layout = random_layout(chance, 3, reach=30)
            greatest = max([0, *[number for box in press.boxes for number in box]])
            margin = chance.randint(greatest, 6)
            if not layout.apart(margin):
                continue
            job = random_job(chance, press, layout)
            sheet, mirrored = layout.sheet(job), Job(press.mirror, job.plates)
            for lie in press.lies:
                for number, copy in enumerate(layout):
                    view = layout.view(sheet.shown(lie), number, margin=margin)
                    turned += copy[2]
                    self.assertEqual(view, mirrored.shown(opposite(lie)) if copy[2] else job.shown(lie))
        self.assertGreater(turned, 100)

    def test_lists_and_turns(self):
        copies = listed(COPIES)
        one, other = Layout(3, 4, copies), Layout(1, 1, COPIES)
        copies[0][0] = 9
        copies.pop()
        self.assertEqual(one.copies, COPIES)
        job = Job(two_press(), (Plate(((0, 0),)), Plate()))
        told = [(one.sheet(job).plates[0].cells, other.sheet(job).plates[0].cells, one.apart(1), other.apart(1),
                 Cuts(one).parting, Cuts(other).blocks) for _ in range(2)]
        self.assertEqual(told[0], told[1])


class SheetVerdictTest(unittest.TestCase, Checks):
    def setUp(self):
        self.page = Picture(((0, 0, "red"), (0, 1, "blue")))
        self.job = plain_book().made(two_press(), self.page)
        self.shut = (("shut", "across", "yellow", "blue", 1),)

    def test_a_sheet_on_which_it_holds(self):
        told = SheetVerdict(Layout(1, 2, ((0, 0, False), (3, 9, True))), self.job, self.page, (("never", "tan"), ("never", "orange")))
        self.assertTrue(told)
        self.assertEqual((told.lie, told.which, told.claim, told.cell), (None, None, None, None))
        # A copy alone shows white in its margin, but not within its box.
        self.assertTrue(SheetVerdict(Layout(1, 2, ((0, 0, False),)), self.job, self.page, self.shut))

    def test_a_sheet_on_which_it_does_not_hold(self):
        told = SheetVerdict(Layout(1, 2, ((5, 5, False), (0, 0, False))), self.job, self.page, (("never", "tan"), *self.shut), margin=1)
        self.assertFalse(told)
        self.assertEqual((told.lie, told.which, told.claim, told.cell), (1, 0, 1, (0, 1)))
        # Of a turned copy, the window shows yellow where blue was moved away from it; here it comes to lie on yellow.
        turned = Layout(1, 2, ((5, 5, True), (0, 0, False)))
        self.assertEqual(SheetVerdict(turned, self.job, self.page, self.shut, margin=1).which, 1)
        green = SheetVerdict(turned, self.job, self.page, [["never", "green"]])
        self.assertEqual((bool(green), green.lie, green.which, green.claim, green.cell), (False, 1, 0, 0, (0, 0)))

    def test_breaches_without_places(self):
        told = SheetVerdict(Layout(1, 2, COPIES), self.job, self.page, (("pieces", "tan"), ("pieces", "red"), ("holes",)))
        self.assertEqual((told.lie, told.which, told.claim, told.cell), (0, 0, 1, None))

    def test_windows_with_cells_in_common(self):
        # Beside a copy, its neighbour shows in the margin.
        layout = Layout(1, 2, ((0, 0, False), (0, 2, False)))
        told = SheetVerdict(layout, self.job, self.page, (("narrow", "across", "blue", 1), ("blank", 0, 2, 1, 1)), margin=1)
        self.assertEqual((told.lie, told.which, told.claim, told.cell), (0, 0, 1, (0, 2)))

    def test_errors(self):
        layout = Layout(1, 2, COPIES)
        wide = plain_book().made(two_press(), Picture(((0, 0, "blue"), (0, 2, "red"))))
        self.assert_error(BadJob, {"number": 0}, SheetVerdict, layout, wide, self.page, None)
        self.assert_error(BadJob, {"number": 1}, SheetVerdict, layout, Job(two_press(), (Plate(), Plate(((1, 0),)))), self.page, None)
        for thing in (None, 3, "ab", (), self.shut * 7, {}):
            self.assert_error(BadWish, {"number": -1}, SheetVerdict, layout, self.job, self.page, thing)
        for thing in (None, "true", ("never", "white"), ()):
            self.assert_error(BadWish, {"number": 1}, SheetVerdict, layout, self.job, self.page, (*self.shut, thing, None))

    def test_against_plain_ways(self):
        chance = rng(597)
        kept = broken = later = 0
        for _ in range(250):
            press = random_press(chance)
            layout = random_layout(chance, 4, reach=8)
            page = random_picture(chance, ("red", "blue"), layout.height, layout.width)
            job = plain_book().made(press, page) if chance.random() < 0.7 else random_job(chance, press, layout)
            wish, margin = chance.choice(WISHES + ((("holes",),), (("never", "tan"), ("keeps", "red")))), chance.randint(0, 6)
            if chance.random() < 0.4:
                wish = (("blank", chance.randint(-2, 2), chance.randint(-2, 3), 1, 2),)
            expected = None
            sheet = layout.sheet(job)
            for (number, lie), which in itertools.product(enumerate(press.lies), range(len(layout))):
                found = breach(wish, page, layout.view(sheet.shown(lie), which, margin=margin))
                if found is not None and expected is None:
                    expected = (number, which, *found)
            told = SheetVerdict(layout, job, page, listed(wish), margin=margin)
            self.assertEqual((told.lie, told.which, told.claim, told.cell), expected or (None,) * 4)
            self.assertIs(bool(told), expected is None)
            kept += bool(told)
            broken += not told
            later += not told and told.lie > 0 and told.which > 0
        self.assertGreater(min(kept, broken), 60)
        self.assertGreater(later, 3)

    def test_sheets_and_their_single_jobs(self):
        """Where the copies are apart, and the margin is wide enough, the sheet is as good as its jobs."""
        chance = rng(599)
        met = {True: 0, False: 0}
        for _ in range(100):
            press = random_press(chance)
            layout = random_layout(chance, 3, reach=40)
            margin = max([0, *[number for box in press.boxes for number in box]])
            if not layout.apart(margin):
                continue
            page = random_picture(chance, ("red", "blue"), layout.height, layout.width)
            job, wish = plain_book().made(press, page), chance.choice(WISHES)
            jobs = [Job(press.mirror, job.plates) if copy[2] else job for copy in layout]
            holds = all(Verdict(single, page, wish) for single in jobs)
            self.assertIs(bool(SheetVerdict(layout, job, page, wish, margin=margin)), holds)
            met[holds] += 1
        self.assertGreater(min(met.values()), 15)


def parts_by(layout, lot, cut):
    """The two parts of a lot, by the cells of the boxes; None if the line passes through a box, or parts nothing."""
    way, number = cut
    low, high = [], []
    for copy in lot:
        places = {cell[0 if way == "across" else 1] for cell in cells_of(layout, layout.copies[copy])}
        if all(place < number for place in places):
            low.append(copy)
        elif all(place >= number for place in places):
            high.append(copy)
        else:
            return None
    return (tuple(low), tuple(high)) if low and high else None


def told_cuts(layout, lot):
    """All cuts that part the lot, across ahead of down."""
    return [cut for cut in itertools.product(("across", "down"), range(-1, 75)) if parts_by(layout, lot, cut)]


def told_steps(layout, lot):
    """The blocks and the steps, where each lot is parted by its first cut."""
    cuts = told_cuts(layout, lot)
    if not cuts:
        return [lot], []
    low, high = [told_steps(layout, part) for part in parts_by(layout, lot, cuts[0])]
    return low[0] + high[0], [(lot, cuts[0]), *low[1], *high[1]]


def any_blocks(chance, layout, lot):
    """The blocks that come of any cuts."""
    cuts = told_cuts(layout, lot)
    if not cuts:
        return [lot]
    return [block for part in parts_by(layout, lot, chance.choice(cuts)) for block in any_blocks(chance, layout, part)]


class CutsTest(unittest.TestCase, Checks):
    def test_small_ones(self):
        one = Cuts(Layout(3, 4, ((5, 5, True),)))
        self.assertEqual((bool(one), one.blocks, one.parting, len(one), tuple(one)), (True, ((0,),), (), 1, ((0,),)))
        layout = Layout(3, 4, COPIES)
        cuts = Cuts(layout)
        self.assertTrue(cuts)
        self.assertEqual((cuts.blocks, tuple(cuts), len(cuts)), (((0,), (1,), (2,)), ((0,), (1,), (2,)), 3))
        self.assertEqual(cuts.parting, (((0, 1, 2), ("across", 3)), ((0, 1), ("down", 4))))
        self.assert_tuples((cuts.blocks, cuts.parting))
        self.assertEqual([first_cut(layout, lot) for lot in ((0, 1, 2), [0, 1], (1, 2), (2,), ())], [
            ("across", 3), ("down", 4), ("across", 3), None, None])

    def test_a_wheel_cannot_be_parted(self):
        # Four boxes around a cell, so that each line passes through one of them.
        wheel = Layout(3, 3, WHEEL)
        cuts = Cuts(wheel)
        self.assertFalse(cuts)
        self.assertEqual((cuts.blocks, cuts.parting, len(cuts)), (((0, 1, 2, 3),), (), 1))
        self.assertIsNone(first_cut(wheel, (0, 1, 2, 3)))
        self.assertEqual([first_cut(wheel, lot) for lot in ((0, 1, 2), (0, 2), (1, 3), (2, 3))],
                         [("across", 4), ("across", 3), ("down", 3), ("down", 3)])
        beside = Cuts(Layout(3, 3, ((0, 9, True), *WHEEL, (20, 0, False))))
        self.assertFalse(beside)
        self.assertEqual((beside.blocks, tuple(beside)), (((0,), (1, 2, 3, 4), (5,)),) * 2)
        self.assertEqual(beside.parting, (((0, 1, 2, 3, 4, 5), ("across", 7)), ((0, 1, 2, 3, 4), ("down", 7))))

    def test_steps_of_both_parts(self):
        # The upper part is parted wholly ahead of the lower one.
        copies = tuple([(9 * row, 9 * column, False) for row in range(2) for column in range(3)])
        self.assertEqual(Cuts(Layout(2, 2, copies)).parting, (
            ((0, 1, 2, 3, 4, 5), ("across", 2)), ((0, 1, 2), ("down", 2)), ((1, 2), ("down", 11)), ((3, 4, 5), ("down", 2)),
            ((4, 5), ("down", 11))))

    def test_against_plain_ways(self):
        chance = rng(601)
        whole = parted = 0
        for _ in range(300):
            size = chance.randint(1, 5)
            layout = random_layout(chance, 8, height=size, width=chance.choice((size, 2, 6)), reach=chance.choice((6, 9, 14)))
            if chance.random() < 0.4:
                copies = [copy for copy in chance.sample(WHEEL, 4)] + [(chance.randint(8, 20), 9, True)]
                layout = Layout(3, 3, copies[chance.randint(0, 1):])
            every = tuple(range(len(layout)))
            blocks, steps = told_steps(layout, every)
            cuts = Cuts(layout)
            self.assertEqual((cuts.blocks, cuts.parting), (tuple(sorted(blocks)), tuple(steps)))
            self.assertEqual(len(cuts.parting), len(cuts.blocks) - 1)
            self.assertIs(bool(cuts), len(blocks) == len(layout))
            self.assertEqual(sorted(any_blocks(chance, layout, every)), sorted(blocks))
            self.assertEqual([first_cut(layout, lot) for lot, _ in cuts.parting], [cut for _, cut in cuts.parting])
            lot = tuple(sorted(chance.sample(every, chance.randint(0, len(every)))))
            told = told_cuts(layout, lot)
            self.assertEqual(first_cut(layout, listed(lot)), told[0] if told else None)
            whole += len(blocks) < len(layout)
            parted += bool(cuts) and len(layout) > 3
        self.assertGreater(min(whole, parted), 20)


class WideSheetTest(unittest.TestCase):
    def test_a_press_with_many_lies(self):
        press = Press(Shelf((SUN, SKY, ROSE)), (("sun", 1), ("sky", 2), ("rose", 0)), ((1, 1, 1, 1), (1, 1, 1, 1)))
        layout = Layout(12, 12, [(20 * row, 15 * column, row == column) for row in range(2) for column in range(4)])
        job = Job(press, (Plate.block(0, 0, 3, 12), Plate.block(4, 0, 3, 12), Plate(((11, 11),))))
        self.assertTrue(layout.apart(1))
        self.assertTrue(SheetVerdict(layout, job, Picture(), (("never", "tan"),), margin=1))


if __name__ == "__main__":
    unittest.main()
