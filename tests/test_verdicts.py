import itertools
import unittest
from unittest import mock

from strayplates.band import Band, tape_seen
from strayplates.book import Book
from strayplates.claims import holds
from strayplates.common import Finding, Walk
from strayplates.designverdict import DesignVerdict, judge_designs
from strayplates.errors import BadClaim, TooMany, Unlike
from strayplates.picture import Picture
from strayplates.plan import Plan
from strayplates.press import Press
from strayplates.readers import Reader
from strayplates.shelf import Shelf
from strayplates.tapeverdict import TapeVerdict, judge_tapes
from tests.test_band_readers import random_tape, wander
from tests.test_plan import random_plan
from tests.tools import ODD, ROSE, SKY, SUN, Checks, listed, plain_book, random_book, rng, two_press

PALETTE = ("blue", "red")
SHUT = ("shut", "across", "yellow", "blue", 1)
CLAIMS = (("never", "green"), ("never", "orange"), ("thick", "across", "blue", 2), ("thick", "across", "white", 2),
          ("narrow", "across", "yellow", 2), ("narrow", "across", "blue", 1), SHUT,
          ("shut", "across", "red", "blue", 2), ("thick", "across", "yellow", 3), ("never", "blue"))


def next_lies(band, lies):
    return [other for other in band.lies if lies is None or all(
        abs(one - two) <= band.pace for one, two in zip(lies, other))]


def tape_moves(band, book, reader):
    def moves(standing):
        behind, lies, state = standing
        for step in band.onward(behind, lies):
            window = (*behind, step[0])
            after = reader(state, band.seen(book, behind, step), window[len(window) - 2 - band.left])
            yield step, None if after == -1 else (band.after(behind, step), step[1], after)
    return moves


def design_moves(band, book, plan, reader):
    def moves(standing):
        place, behind, lies, state = standing
        for step in itertools.product(plan.follows(place), next_lies(band, lies)):
            told = (plan.colour_of(step[0]), step[1])
            window = (*behind, told[0])
            after = reader(state, band.seen(book, behind, told), window[len(window) - 2 - band.left])
            yield step, None if after == -1 else (step[0], band.after(behind, told), step[1], after)
    return moves


def found(start, moves, most=2000):
    """The table and None, or None and the story; "many" if there are too many standings."""
    stories = {start: ()}
    waiting = [start]
    for standing in waiting:
        for step, follow in moves(standing):
            if follow is None:
                return None, (*stories[standing], step)
            if follow not in stories:
                if len(waiting) == most:
                    return "many"
                stories[follow] = (*stories[standing], step)
                waiting.append(follow)
    return tuple(waiting), None


def judged(start, moves, formed, rows):
    """What the judge answers to rows that all have the form but those not in formed."""
    known = [row for row in rows if row in formed]
    if start not in known:
        return -1
    for number, row in enumerate(rows):
        if row not in formed or any(follow not in known for _, follow in moves(row)):
            return number
    return None


def random_band(chance):
    shelf = Shelf((SUN, SKY, ROSE))
    boxes = chance.choice(((), ((0, 0, 0, 1),), ((0, 0, 1, 0),), ((1, 0, 1, 1),), ((0, 0, 1, 0), (0, 0, 0, 1))))
    units = [(name, chance.randint(0, len(boxes))) for name in chance.sample(("sun", "sky", "rose"), chance.randint(1, 3))]
    bars = tuple([pair for pair in itertools.product(PALETTE, repeat=2) if chance.random() < 0.3])
    palette = chance.choice((PALETTE, ("red",)))
    return Band(Press(shelf, units, boxes), palette, pace=chance.randint(0, 1),
                bars=[bar for bar in bars if set(bar) <= set(palette)])


class Line(Walk):
    """Standings 0, 1, 2 .., up to the last one; the step behind `breaks` breaks the claim, and so does finding `bad`."""

    start = 0

    def __init__(self, many, breaks=None, bad=None):
        self.many, self.breaks, self.bad = many, breaks, bad

    def fails(self, standing):
        return standing == self.bad

    def moves(self, standing):
        found = [("back", None, 0)]
        if standing == self.breaks:
            found.append(("broken", standing, None))
        if standing + 1 < self.many:
            found.append(("on", standing, standing + 1))
        return found


class FindingTest(unittest.TestCase, Checks):
    def test_the_bound(self):
        self.assertEqual(Finding(Line(2000), 2000).standings, list(range(2000)))
        self.assert_error(TooMany, {"word": "standing"}, Finding, Line(2001), 2000)

    def test_what_comes_first(self):
        told = Finding(Line(2001, 1999), 2000).told_steps()
        self.assertEqual((len(told), told[-2:]), (2000, [("on", 1998), ("broken", 1999)]))
        self.assert_error(TooMany, {"word": "standing"}, Finding, Line(2001, 2000), 2000)


    def test_standings_that_break_the_claim(self):
        told = Finding(Line(2001, bad=1999), 2000)
        self.assertEqual((told.standings[-1], told.told_steps()[-1]), (1999, ("on", 1998)))
        # A standing too much is not judged any more.
        self.assert_error(TooMany, {"word": "standing"}, Finding, Line(2001, bad=2000), 2000)
        self.assert_error(TooMany, {"word": "lot"}, Finding, Line(2001, bad=2000), 2000, "lot")
        self.assertEqual(len(Finding(Line(2001, bad=2000), 2001).told_steps()), 2000)
        self.assertEqual(len(Finding(Line(2001, bad=2000), None).told_steps()), 2000)


class TapeVerdictTest(unittest.TestCase, Checks):
    def test_a_small_one(self):
        band = Band(Press(Shelf((SUN,)), (("sun", 0),)), ("red",))
        book = Book((("red", ("sun",)),))
        told = TapeVerdict(band, book, ("narrow", "across", "yellow", 2))
        self.assertFalse(told)
        self.assertEqual(told.story, (("red", ()), ("red", ()), ("red", ()), ("white", ())))
        self.assertEqual(told.tape, ("red", "red", "red", "white"))
        self.assertEqual(told.seen_colours, ("white", "yellow", "yellow", "yellow"))
        self.assertEqual((told.table, len(told), list(told)), (None, 0, []))
        barred = TapeVerdict(band.with_bars(("red", "red")), book, ("narrow", "across", "yellow", 1))
        self.assertTrue(barred)
        start = (("white", "white"), None, 0)
        self.assertEqual(barred.table[:3], (start, (("white", "white"), (), 0), (("white", "red"), (), 0)))
        self.assertEqual((barred.story, barred.tape, barred.seen_colours), (None, None, None))
        self.assertEqual((len(barred), tuple(barred)), (len(barred.table), barred.table))
        self.assert_tuples(barred.table)

    def test_the_page_that_wanders(self):
        book = plain_book()
        for pace in (0, 1):
            told = TapeVerdict(Band(two_press(), PALETTE, pace=pace), book, SHUT)
            self.assertFalse(told)
            self.assertEqual(told.tape[:2], ("red", "blue"))
        apart = (("red", "blue"), ("blue", "red"))
        self.assertTrue(TapeVerdict(Band(two_press(), PALETTE, pace=0, bars=apart[:1]), book, SHUT))
        self.assertTrue(TapeVerdict(Band(two_press(), PALETTE, bars=apart), book, SHUT))
        # With these bars, blue can be stretched beside a blue cell that is not printed; then red shows.
        stretched = TapeVerdict(Band(two_press(), PALETTE, bars=apart[:1]), book, SHUT)
        self.assertEqual(stretched.story, (
            ("blue", (0,)), ("white", (0,)), ("blue", (1,)), ("red", (1,)), ("white", (0,))))
        self.assertEqual(stretched.seen_colours, ("white", "blue", "blue", "white", "yellow"))
        self.assertTrue(TapeVerdict(Band(two_press(((0, 0, 0, 0),)), PALETTE), book, SHUT))

    def test_errors(self):
        band, book = Band(two_press(), PALETTE), plain_book()
        for thing in ODD + (("true",), ("thick", "down", "red", 2), ("never", "white"), ["keeps", "red"]):
            self.assert_error(BadClaim, {"claim": thing}, TapeVerdict, band, book, thing)
            self.assert_error(BadClaim, {"claim": thing}, judge_tapes, band, book, thing, None)

    def test_too_many(self):
        press = Press(Shelf((SUN, SKY)), (("sun", 1), ("sky", 2)), ((0, 0, 3, 3), (0, 0, 3, 3)))
        band, book = Band(press, PALETTE), plain_book()
        self.assert_error(TooMany, {"word": "standing"}, TapeVerdict, band, book, ("never", "tan"))
        self.assertEqual(judge_tapes(band, book, ("never", "tan"), ()), -1)
        self.assertEqual(judge_tapes(band, book, ("never", "tan"), ((band.beginning, None, 0),)), 0)
        self.assertFalse(TapeVerdict(band, book, ("never", "blue")))

    def test_2000_and_2001_standings(self):
        band = Band(two_press(((0, 0, 2, 2),)), ("a", "blue"), pace=0, bars=(("a", "a"), ("blue", "blue")))
        self.assertEqual(len(TapeVerdict(band, plain_book(), ("shut", "across", "blue", "tan", 3)).table), 2000)
        band = Band(two_press(((0, 0, 1, 1), (0, 0, 2, 2))), ("blue",))
        claim = ("shut", "across", "blue", "tan", 3)
        moves = tape_moves(band, plain_book(), Reader(claim))
        self.assertEqual(len(found((band.beginning, None, 0), moves, 2001)[0]), 2001)
        self.assert_error(TooMany, {"word": "standing"}, TapeVerdict, band, plain_book(), claim)

    def test_against_plain_ways(self):
        chance = rng(31)
        kept = broken = 0
        for _ in range(300):
            band, claim = random_band(chance), chance.choice(CLAIMS)
            book = random_book(chance, ("white", *band.colours), ("rose", "sky", "sun"), 6, 3)
            reader = Reader(claim)
            start = (band.beginning, None, reader.start)
            expected = found(start, tape_moves(band, book, reader))
            if expected == "many":
                self.assert_error(TooMany, {"word": "standing"}, TapeVerdict, band, book, claim)
                continue
            told = TapeVerdict(band, book, listed(claim))
            self.assertEqual((told.table, told.story), expected)
            self.assertIs(bool(told), told.story is None)
            if told:
                kept += 1
                self.check_table(chance, band, book, claim, told.table)
                self.check_tapes(chance, band, book, claim)
            else:
                broken += 1
                self.check_story(band, book, reader, told)
        self.assertGreater(min(kept, broken), 25)

    def check_tapes(self, chance, band, book, claim):
        """The claim holds for tapes, however they are wandered along, as a claim of pictures."""
        for _ in range(5):
            tape = random_tape(chance, band, chance.randint(0, 6))
            seen = tape_seen(band, book, tape, wander(chance, band, len(tape) + band.depth))
            picture = Picture.of((seen,), left=-band.left - 1)
            self.assertTrue(holds(claim, Picture.of((tape,)), picture))

    def check_story(self, band, book, reader, told):
        self.assertEqual(told.tape, tuple([colour for colour, _ in told.story]))
        lies = [here for _, here in told.story]
        seen = tape_seen(band, book, told.tape, lies + [lies[-1]] * band.depth)[:len(lies)]
        self.assertEqual(told.seen_colours, seen)
        under = (("white",) * (band.left + 1) + told.tape)[:len(lies)]
        self.assertEqual(reader.broken_at(seen, under), len(lies) - 1)

    def check_table(self, chance, band, book, claim, table):
        reader = Reader(claim)
        start = (band.beginning, None, reader.start)
        self.assertIsNone(judge_tapes(band, book, claim, table))
        self.assertIsNone(judge_tapes(band, book, claim, listed(table[::-1] + table)))
        moves = tape_moves(band, book, reader)
        for _ in range(4):
            rows = list(table)
            rows.pop(chance.randrange(len(rows)))
            self.assertEqual(judge_tapes(band, book, claim, rows), judged(start, moves, table, rows))
        spoilt = list(table)
        at = chance.randrange(len(table))
        spoilt[at] = (*table[at][:2], -1)
        self.assertEqual(judge_tapes(band, book, claim, spoilt), judged(start, moves, table, spoilt))
        self.assertEqual(judge_tapes(band, book, claim, (*table, None)), len(table))


class JudgeTapesTest(unittest.TestCase, Checks):
    def setUp(self):
        self.band = Band(two_press(), ("red",), pace=1)
        self.book = plain_book()
        self.claim = ("thick", "across", "blue", 3)
        self.table = TapeVerdict(self.band, self.book, self.claim).table

    def judge(self, rows):
        return judge_tapes(self.band, self.book, self.claim, rows)

    def test_wrong_as_a_whole(self):
        for thing in (None, "ab", 3, {}, (), self.table[1:], (None,), ((("white",) * 3, None, False),) + self.table[1:]):
            self.assertEqual(self.judge(thing), -1)
        self.assertIsNone(self.judge(self.table))

    def test_rows_that_have_not_the_form(self):
        behind, lies, state = self.table[-1]
        for row in (None, (), "abc", 3, (behind, lies), (behind, lies, state, 0), (behind[1:], lies, state),
                    (("blue",) * 3, lies, state), (("Red",) * 3, lies, state), ("red", lies, state),
                    (behind, (2,), state), (behind, (-1,), state), (behind, (0, 0), state), (behind, (True,), state),
                    (behind, (), state), (behind, "0", state), (behind, 0, state), (behind, lies, 4),
                    (behind, lies, -1), (behind, lies, True), (behind, lies, "0"), (behind, lies, None),
                    ((1, 2, 3), lies, state), ((("red",),) * 3, lies, state)):
            self.assertEqual(self.judge((*self.table, row)), len(self.table))
            self.assertEqual(self.judge((row, *self.table)), 0)
            self.assertEqual(self.judge([listed(row), *self.table]), 0)

    def test_rows_that_have_the_form_but_are_wrong(self):
        # The state 1 breaks the claim with the next column, as no blue can follow on this palette.
        wrong = (("white",) * 3, (0,), 1)
        self.assertEqual(self.judge((*self.table, wrong)), len(self.table))
        self.assertEqual(self.judge((wrong, *self.table)), 0)

    def test_more_rows_than_needed(self):
        more = (("red",) * 3, None, 3)
        self.assertNotIn(more, self.table)
        self.assertIsNone(self.judge((*self.table, more)))
        self.assertIsNone(self.judge((more, more, *self.table)))

    def test_states_of_each_claim(self):
        band = Band(two_press(((0, 0, 0, 0),)), ("red",))
        for claim, greatest in ((("never", "tan"), 0), (("thick", "across", "tan", 4), 4),
                                (("narrow", "across", "tan", 3), 3), (("shut", "across", "tan", "pink", 3), 16)):
            table = TapeVerdict(band, Book(), claim).table
            for state in range(-2, greatest + 3):
                row = (band.beginning, (0,), state)
                answer = judge_tapes(band, Book(), claim, (*table, row))
                closed = all(follow in (*table, row) for _, follow in tape_moves(band, Book(), Reader(claim))(row)) \
                    if 0 <= state <= greatest else False
                self.assertEqual(answer, None if closed else len(table))

    def test_rows_beyond_the_ranges_that_would_be_closed(self):
        band = Band(two_press(((0, 0, 0, 0),)), ("red",))
        for claim, states in ((("never", "tan"), [0]), (("thick", "across", "tan", 4), [0, 4]),
                              (("narrow", "across", "tan", 3), [0, 1, 2, 3]),
                              (("shut", "across", "tan", "pink", 3), list(range(17)))):
            rows = [(behind, lies, state) for state in [*states, states[-1] + 1] for lies in (None, (0,))
                    for behind in itertools.product(("white", "red"), repeat=2)]
            self.assertEqual(judge_tapes(band, Book(), claim, rows), 8 * len(states))
            self.assertIsNone(judge_tapes(band, Book(), claim, rows[:8 * len(states)]))
        # With a colour that is not of the palette, all that follows is in the table, but these are no rows.
        strange = [(behind, (0,), 0) for behind in (("tan", "tan"), ("tan", "white"), ("tan", "red"))]
        table = [(behind, lies, 0) for lies in (None, (0,)) for behind in itertools.product(("white", "red"), repeat=2)]
        self.assertEqual(judge_tapes(band, Book(), ("never", "tan"), (*table, *strange)), 8)
        self.assertIsNone(judge_tapes(band, Book(), ("never", "tan"), table))


class DesignVerdictTest(unittest.TestCase, Checks):
    def setUp(self):
        self.band = Band(two_press(), PALETTE)
        self.book = plain_book()
        self.plan = Plan((("a", ("red",)), ("b", ("blue",)), ("gap", ("white", "white"))),
                         (("a", "gap"), ("b", "gap"), ("gap", "a"), ("gap", "b")), ("a", "b"), ("a", "b"))

    def test_a_small_one(self):
        told = DesignVerdict(self.band, self.book, self.plan, SHUT)
        self.assertTrue(told)
        self.assertEqual(told.table[0], ((-1, 0), ("white",) * 3, None, 0))
        self.assertEqual((told.story, told.begun, told.tape), (None, None, None))
        self.assertEqual((len(told), tuple(told)), (len(told.table), told.table))
        self.assert_tuples(told.table)
        joined = Plan(self.plan.motifs, (("a", "b"),), ("a",), ("b",))
        broken = DesignVerdict(self.band, self.book, joined, SHUT)
        self.assertFalse(broken)
        self.assertEqual(broken.begun, ("a", "b"))
        self.assertEqual(broken.tape[:2], ("red", "blue"))
        self.assertEqual([place for place, _ in broken.story][:3], [(0, 1), (1, 1), (-2, 0)])
        self.assertEqual((len(broken), list(broken), broken.table), (0, [], None))

    def test_the_bars_of_the_band_do_not_count(self):
        band = Band(two_press(), PALETTE, pace=0, bars=(("red", "blue"),))
        joined = Plan(self.plan.motifs, (("a", "b"),), ("a",), ("b",))
        self.assertTrue(TapeVerdict(band, self.book, SHUT))
        self.assertFalse(DesignVerdict(band, self.book, joined, SHUT))

    def test_no_designs(self):
        told = DesignVerdict(self.band, self.book, Plan(self.plan.motifs), ("never", "yellow"))
        self.assertEqual(told.table, (((-1, 0), ("white",) * 3, None, 0),))

    def test_errors(self):
        strange = Plan((("a", ("red", "tan")),))
        for call, told in ((DesignVerdict, ()), (judge_designs, (None,))):
            self.assert_error(Unlike, {"word": "colours"}, call, self.band, self.book, strange, None, *told)
            for thing in ODD + (("true",), ["never"], ("thick", "down", "red", 2)):
                self.assert_error(BadClaim, {"claim": thing}, call, self.band, self.book, self.plan, thing, *told)

    def test_too_many(self):
        press = Press(Shelf((SUN, SKY)), (("sun", 1), ("sky", 2)), ((0, 0, 3, 3), (0, 0, 3, 3)))
        plan = Plan((("a", ("red",)), ("b", ("blue",))), (("a", "a"), ("a", "b"), ("b", "a"), ("b", "b")), ("a",), ("a",))
        band = Band(press, PALETTE)
        self.assert_error(TooMany, {"word": "standing"}, DesignVerdict, band, self.book, plan, ("never", "tan"))
        start = ((-1, 0), band.beginning, None, 0)
        self.assertEqual(judge_designs(band, self.book, plan, ("never", "tan"), (start,)), 0)

    def test_2001_standings(self):
        band = Band(two_press(((0, 0, 2, 2), (0, 0, 2, 2))), ("blue",))
        motifs = (("a", ("white", "white", "blue", "white")), ("b", ("white", "blue")), ("c", ("white", "blue", "white")),
                  ("d", ("blue", "blue", "blue")))
        joints = (("a", "a"), ("a", "b"), ("a", "c"), ("b", "a"), ("b", "b"), ("c", "a"), ("c", "b"), ("d", "a"),
                  ("d", "b"), ("d", "d"))
        plan = Plan(motifs, joints, tuple("abcd"), tuple("abcd"))
        moves = design_moves(band, self.book, plan, Reader(("never", "tan")))
        start = ((-1, 0), band.beginning, None, 0)
        self.assertEqual(len(found(start, moves, 2001)[0]), 2001)
        self.assert_error(TooMany, {"word": "standing"}, DesignVerdict, band, self.book, plan, ("never", "tan"))

    def test_2000_standings_are_not_too_many(self):
        with mock.patch("strayplates.designverdict.Finding", side_effect=Finding) as finding:
            DesignVerdict(self.band, self.book, self.plan, SHUT)
        self.assertEqual(finding.call_args.args[1], 2000)

    def test_against_plain_ways(self):
        chance = rng(37)
        kept = broken = 0
        for _ in range(300):
            band, claim = random_band(chance), chance.choice(CLAIMS)
            plan = random_plan(chance, ("white", *band.colours), 3, 0.8)
            book = random_book(chance, ("white", *band.colours), ("rose", "sky", "sun"), 6, 3)
            reader = Reader(claim)
            start = ((-1, 0), band.beginning, None, reader.start)
            moves = design_moves(band, book, plan, reader)
            expected = found(start, moves)
            if expected == "many":
                self.assert_error(TooMany, {"word": "standing"}, DesignVerdict, band, book, plan, claim)
                continue
            told = DesignVerdict(band, book, plan, listed(claim))
            self.assertEqual((told.table, told.story), expected)
            if told:
                kept += 1
                table = told.table
                self.assertIsNone(judge_designs(band, book, plan, claim, table))
                self.assertIsNone(judge_designs(band, book, plan, claim, listed(table[::-1] + table)))
                for _ in range(3):
                    rows = list(table)
                    rows.pop(chance.randrange(len(rows)))
                    self.assertEqual(judge_designs(band, book, plan, claim, rows), judged(start, moves, table, rows))
            else:
                broken += 1
                self.check_story(band, book, plan, reader, told)
        self.assertGreater(min(kept, broken), 25)

    def check_story(self, band, book, plan, reader, told):
        self.assertEqual(told.tape, tuple([plan.colour_of(place) for place, _ in told.story]))
        self.assertEqual(told.begun, tuple([plan.motifs[place[0]][0] for place, _ in told.story if place[1] == 1]))
        many = len(told.begun)
        designs = [design for design in plan.designs(6) if design[:many] == told.begun]
        if designs:
            # Some design goes on so; read column by column, its tape breaks the claim with the last step's column.
            ended = (-2, 0) in [place for place, _ in told.story]
            design = told.begun if ended else min(designs, key=len)
            tape = plan.tape_of(design)
            steps = len(told.story)
            lies = [here for _, here in told.story]
            lies += [lies[-1]] * (len(tape) + band.depth)
            long = (*tape, *("white",) * steps)
            self.assertEqual(long[:steps], told.tape)
            free = Band(band.press, band.colours, pace=band.pace)
            seen = tape_seen(free, book, long, lies[:steps] + [lies[steps - 1]] * (len(long) + band.depth - steps))
            under = ("white",) * (band.left + 1) + long
            self.assertEqual(reader.broken_at(seen[:steps], under[:steps]), steps - 1)
            self.assertIn(design, plan)
        else:
            self.assertGreater(many, 0)


class JudgeDesignsTest(unittest.TestCase, Checks):
    def setUp(self):
        self.band = Band(two_press(), ("red",))
        self.book = plain_book()
        self.plan = Plan((("a", ("red", "red")), ("dead", ("red",))), (("a", "a"),), ("a",), ("a",))
        self.claim = ("thick", "across", "blue", 3)
        self.table = DesignVerdict(self.band, self.book, self.plan, self.claim).table

    def judge(self, rows):
        return judge_designs(self.band, self.book, self.plan, self.claim, rows)

    def test_wrong_as_a_whole(self):
        start = self.table[0]
        for thing in (None, "ab", 3, {}, (), self.table[1:], (None,), ((*start[:3], False), *self.table[1:])):
            self.assertEqual(self.judge(thing), -1)
        self.assertIsNone(self.judge(self.table))

    def test_rows_that_have_not_the_form(self):
        place, behind, lies, state = self.table[-1]
        for row in (None, (), "abcd", (behind, lies, state), (place, behind, lies, state, 0), ((2, 1), behind, lies, state),
                    ((0, 3), behind, lies, state), ((0, 0), behind, lies, state), ((1, 2), behind, lies, state),
                    ((-3, 0), behind, lies, state), ((-1, 1), behind, lies, state), ((False, 1), behind, lies, state),
                    ((0, True), behind, lies, state), ((0,), behind, lies, state), (0, behind, lies, state),
                    (None, behind, lies, state), (place, behind[1:], lies, state), (place, ("blue",) * 3, lies, state),
                    (place, behind, (2,), state), (place, behind, (False,), state), (place, behind, (), state),
                    (place, behind, lies, 4), (place, behind, lies, -1), (place, behind, lies, False)):
            self.assertEqual(self.judge((*self.table, row)), len(self.table))
            self.assertEqual(self.judge([listed(row), *self.table]), 0)

    def test_rows_that_have_the_form(self):
        behind = ("white",) * 3
        # A place of a motif that is not live is a place, too; nothing follows from it.
        for row in (((1, 1), behind, (0,), 1), ((1, 1), ("red",) * 3, None, 3)):
            self.assertNotIn(row, self.table)
            self.assertIsNone(self.judge((row, *self.table, row)))
        self.assertEqual(self.judge((*self.table, ((-2, 0), behind, (0,), 1))), len(self.table))


if __name__ == "__main__":
    unittest.main()
