import itertools
import unittest

from strayplates.claims import breach, holds, is_claim, is_local, is_row_claim, places
from strayplates.errors import BadClaim, BadWish
from strayplates.picture import Picture, holes, pieces
from tests.tools import ODD, Checks, listed, random_picture, rng

LOCAL = (("never", "red"), ("thick", "across", "red", 2), ("thick", "down", "white", 4), ("narrow", "down", "red", 1),
         ("narrow", "across", "red", 4), ("shut", "across", "red", "blue", 1), ("shut", "down", "blue", "red", 3),
         ("fringe", "red", 1), ("fringe", "red", 2), ("keeps", "red"), ("true",))
OTHERS = (("holes",), ("pieces", "red"), ("blank", -50, 50, 1, 20))
WRONG = (("never",), ("never", "white"), ("never", "Red"), ("never", "red", 1), ("never", 1), ("never", ("red",)),
         ("thick", "across", "red", 1), ("thick", "across", "red", 5), ("thick", "near", "red", 2),
         ("thick", "red", 2), ("thick", "across", "red", True), ("thick", "across", "red", "2"),
         ("thick", ("across",), "red", 2), ("thick", "across", "Red", 2), ("thick", "across", "red", 2, 2),
         ("narrow", "across", "white", 1), ("narrow", "across", "red", 0), ("narrow", "across", "red", 5),
         ("narrow", "across", "red", True), ("narrow", 1, "red", 1), ("narrow", "across"),
         ("shut", "across", "red", "red", 1), ("shut", "across", "white", "red", 1), ("shut", "up", "red", "blue", 1),
         ("shut", "across", "red", "white", 1), ("shut", "across", "red", "blue", 0),
         ("shut", "across", "red", "blue", 4), ("shut", "across", "red", "blue", True), ("shut", "across", "red", 1),
         ("fringe", "red", 0), ("fringe", "red", 3), ("fringe", "white", 1), ("fringe", "red", True), ("fringe", "red"),
         ("keeps",), ("keeps", "white"), ("true", "red"), ("true", ()), ("holes", "red"), ("pieces",),
         ("pieces", "white"), ("blank", -51, 0, 1, 1), ("blank", 0, 51, 1, 1), ("blank", 0, 0, 0, 1),
         ("blank", 0, 0, 1, 21), ("blank", 0, 0, 21, 1), ("blank", 0, 0, True, 1), ("blank", 0, 0, 1),
         ("blank", False, 0, 1, 1), ("blank", 0, 0, 1, 1, 1), ("true", "true"), "true", "never", ("nothing",),
         (("true",),), ((), "red"), ({1: 2},), ({1}, "red"), ("never", {1}), (None,), (True, "red"), ("across", "red"))


def picture_of(*rows):
    signs = {".": "white", "r": "red", "b": "blue", "g": "green"}
    return Picture.of([[signs[sign] for sign in row] for row in rows])


def run_at(picture, way, cell):
    """The cells of the run of this cell; those of a longer run than ten are told as None."""
    step = (0, 1) if way == "across" else (1, 0)
    found = [cell]
    for sign in (-1, 1):
        row, column = cell
        for _ in range(10):
            row, column = row + sign * step[0], column + sign * step[1]
            if picture[(row, column)] != picture[cell]:
                break
            found.append((row, column))
        else:
            return None
    return sorted(found)


def is_place(claim, page, picture, cell):
    """Whether the claim is broken at the cell, as [7] tells it."""
    kind, hue = claim[0], picture[cell]
    if kind == "never":
        return hue == claim[1]
    if kind in ("thick", "narrow"):
        run = run_at(picture, claim[1], cell)
        if hue != claim[2] or run is None:
            return False
        return len(run) < claim[3] if kind == "thick" else len(run) > claim[3]
    if kind == "shut":
        run = run_at(picture, claim[1], cell)
        if hue != "white" or run is None or len(run) > claim[4]:
            return False
        step = (0, 1) if claim[1] == "across" else (1, 0)
        ends = {picture[(run[0][0] - step[0], run[0][1] - step[1])],
                picture[(run[-1][0] + step[0], run[-1][1] + step[1])]}
        return ends == {claim[2], claim[3]} and any(part in page for part in run)
    if kind == "fringe":
        return hue == claim[1] and all(len(run_at(picture, way, cell)) > claim[2] for way in ("across", "down"))
    if kind == "keeps":
        around = [(0, 0), (1, 0), (-1, 0), (0, 1), (0, -1)]
        return hue != claim[1] and all(page[(cell[0] + r, cell[1] + c)] == claim[1] for r, c in around)
    if kind == "true":
        return hue != page[cell]
    if kind == "blank":
        return hue != "white" and 0 <= cell[0] - claim[1] < claim[3] and 0 <= cell[1] - claim[2] < claim[4]
    return False


class FormTest(unittest.TestCase, Checks):
    def test_claims(self):
        for claim in LOCAL + OTHERS:
            for thing in (claim, listed(claim)):
                self.assertIs(is_claim(thing), True)
                self.assertIs(is_local(thing), claim in LOCAL)
                row = claim[0] == "never" or len(claim) > 3 and claim[1] == "across"
                self.assertIs(is_row_claim(thing), row)

    def test_the_bounds(self):
        for kind, low, high in (("thick", 2, 4), ("narrow", 1, 4)):
            self.assertEqual([n for n in range(-1, 8) if is_claim((kind, "down", "red", n))],
                             list(range(low, high + 1)))
        self.assertEqual([n for n in range(-1, 8) if is_claim(("shut", "down", "red", "blue", n))], [1, 2, 3])
        self.assertEqual([n for n in range(-1, 8) if is_claim(("fringe", "red", n))], [1, 2])
        for at, low, high in ((1, -50, 50), (2, -50, 50), (3, 1, 20), (4, 1, 20)):
            told = [n for n in range(-60, 61) if is_claim(("blank", 1, 1, 1, 1)[:at] + (n,) + (1,) * (4 - at))]
            self.assertEqual((told[0], told[-1]), (low, high))

    def test_whatever_it_is(self):
        for thing in ODD + WRONG:
            for judge in (is_claim, is_local, is_row_claim):
                self.assertIs(judge(thing), False, thing)
                self.assertIs(judge(listed(thing)), False, thing)

    def test_errors(self):
        for thing in ODD + WRONG:
            for call in (holds, places):
                self.assert_error(BadClaim, {"claim": thing}, call, thing, Picture(), Picture())
            self.assert_error(BadWish, {"number": 1}, breach, (("true",), thing, None), Picture(), Picture())
        for thing in (None, (), "true", (("true",),) * 7, {("true",): 1}, 3):
            self.assert_error(BadWish, {"number": -1}, breach, thing, Picture(), Picture())
        self.assertIsNone(breach([["true"]] * 6, Picture(), Picture()))


class SayingTest(unittest.TestCase, Checks):
    def check(self, claim, page, picture, cells):
        broken = bool(cells)
        self.assertEqual(places(claim, page, picture), tuple(cells))
        self.assertEqual(places(listed(claim), page, picture), tuple(cells))
        self.assertIs(holds(claim, page, picture), not broken)
        self.assertEqual(breach((claim,), page, picture), (0, cells[0]) if broken else None)
        self.assertEqual(breach((("blank", 50, 50, 1, 1), claim), page, picture), (1, cells[0]) if broken else None)

    def test_never(self):
        self.check(("never", "red"), Picture(), picture_of("r.b", ".rr"), [(0, 0), (1, 1), (1, 2)])
        self.check(("never", "green"), picture_of("g"), picture_of("r.b"), [])

    def test_thick(self):
        picture = picture_of("r.rr.rrr.rrrr")
        self.check(("thick", "across", "red", 2), Picture(), picture, [(0, 0)])
        self.check(("thick", "across", "red", 3), Picture(), picture, [(0, 0), (0, 2), (0, 3)])
        self.check(("thick", "across", "red", 4), Picture(), picture, [(0, k) for k in (0, 2, 3, 5, 6, 7)])
        self.check(("thick", "down", "red", 2), Picture(), picture_of("r", "r", ".", "r"), [(3, 0)])
        self.check(("thick", "across", "blue", 4), Picture(), picture, [])

    def test_thick_white(self):
        picture = picture_of("r.b..r...r....r", "...............", ".....r.........")
        self.check(("thick", "across", "white", 2), Picture(), picture, [(0, 1)])
        self.check(("thick", "across", "white", 3), Picture(), picture, [(0, 1), (0, 3), (0, 4)])
        self.check(("thick", "across", "white", 4), Picture(), picture, [(0, k) for k in (1, 3, 4, 6, 7, 8)])
        self.check(("thick", "down", "white", 2), Picture(), picture, [(1, 5)])
        self.check(("thick", "across", "white", 4), Picture(), Picture(), [])
        self.check(("thick", "across", "white", 4), Picture(), picture_of("r"), [])

    def test_narrow(self):
        picture = picture_of("r.rr.rrr.rrrr.rrrrr")
        for n, cells in ((4, range(14, 19)), (3, [*range(9, 13), *range(14, 19)])):
            self.check(("narrow", "across", "red", n), Picture(), picture, [(0, k) for k in cells])
        self.check(("narrow", "down", "red", 1), Picture(), picture, [])
        self.check(("narrow", "down", "red", 1), Picture(), picture_of("r.", "rr"), [(0, 0), (1, 0)])

    def test_shut(self):
        page = picture_of("rrrrrrrrrrrrrrr")
        picture = picture_of("r.b..r...b....r")
        for n, cells in ((1, [1]), (2, [1, 3, 4]), (3, [1, 3, 4, 6, 7, 8])):
            self.check(("shut", "across", "red", "blue", n), page, picture, [(0, k) for k in cells])
            self.check(("shut", "across", "blue", "red", n), page, picture, [(0, k) for k in cells])
        # Only runs with a cell that is inked on the page count, and only those between just these two colours.
        self.check(("shut", "across", "red", "blue", 3), picture_of(".r.....r."), picture, [(0, k) for k in (1, 6, 7, 8)])
        self.check(("shut", "across", "red", "blue", 3), Picture(), picture, [])
        self.check(("shut", "across", "red", "green", 3), page, picture, [])
        self.check(("shut", "across", "red", "blue", 3), page, picture_of("r.r..rgb"), [])
        self.check(("shut", "down", "red", "blue", 1), picture_of("r", "r"), picture_of("r", ".", "b"), [(1, 0)])

    def test_fringe(self):
        picture = picture_of(".rr", "rrr", ".r.")
        self.check(("fringe", "red", 1), Picture(), picture, [(0, 1), (0, 2), (1, 1), (1, 2)])
        self.check(("fringe", "red", 2), Picture(), picture, [(1, 1)])
        self.check(("fringe", "blue", 1), Picture(), picture, [])

    def test_keeps(self):
        page = picture_of(".rr.", "rrrr", ".rr.")
        self.check(("keeps", "red"), page, Picture(), [(1, 1), (1, 2)])
        self.check(("keeps", "red"), page, picture_of("....", ".rb."), [(1, 2)])
        self.check(("keeps", "blue"), page, Picture(), [])

    def test_true(self):
        self.check(("true",), picture_of("rb"), picture_of(".bg"), [(0, 0), (0, 2)])
        self.check(("true",), picture_of("rb"), picture_of("rb"), [])

    def test_blank(self):
        picture = picture_of("rrr", "rrr")
        self.check(("blank", 0, 1, 1, 2), Picture(), picture, [(0, 1), (0, 2)])
        self.check(("blank", -1, -1, 2, 2), Picture(), picture, [(0, 0)])
        self.check(("blank", 2, 0, 20, 20), Picture(), picture, [])

    def test_holes_and_pieces(self):
        ring = picture_of("rrr", "r.r", "rrr")
        for claim in (("holes",), ("pieces", "red")):
            self.assertEqual(places(claim, Picture(), ring), ())
            self.assertIs(holds(claim, ring, ring.moved(3, 3)), True)
            self.assertIs(holds(claim, ring, Picture()), False)
            self.assertIs(holds(claim, Picture(), ring), False)
            self.assertEqual(breach((claim, ("never", "red")), Picture(), ring), (0, None))
        self.assertIs(holds(("pieces", "blue"), ring, Picture()), True)
        self.assertEqual(breach((("holes",), ("true",)), ring, ring.moved(0, 1)), (1, (0, 0)))

    def test_against_cell_by_cell(self):
        chance = rng(11)
        claims = [("never", "red"), ("fringe", "red", 1), ("fringe", "red", 2), ("keeps", "red"), ("true",),
                  ("blank", 1, 1, 2, 2)]
        for way in ("across", "down"):
            claims += [("thick", way, hue, n) for hue in ("red", "white") for n in (2, 3, 4)]
            claims += [("narrow", way, "red", n) for n in (1, 2, 3, 4)]
            claims += [("shut", way, "red", "blue", n) for n in (1, 2, 3)]
        for _ in range(60):
            page = random_picture(chance, ("red", "blue"), 5, 6, chance.random())
            picture = random_picture(chance, ("red", "blue", "red"), 5, 6, chance.random())
            for claim in claims:
                cells = [cell for cell in itertools.product(range(-1, 7), range(-1, 8))
                         if is_place(claim, page, picture, cell)]
                self.check(claim, page, picture, cells)
            self.assertIs(holds(("holes",), page, picture), len(holes(page)) == len(holes(picture)))
            self.assertIs(holds(("pieces", "red"), page, picture),
                          len(pieces(page, "red")) == len(pieces(picture, "red")))

    def test_a_wish_tells_its_first_broken_claim(self):
        wish = (("never", "green"), ("thick", "across", "red", 2), ("never", "red"))
        self.assertEqual(breach(wish, Picture(), picture_of("rr.r")), (1, (0, 3)))
        self.assertEqual(breach(listed(wish), Picture(), picture_of("rr")), (2, (0, 0)))
        self.assertIsNone(breach(wish, Picture(), picture_of("b")))


if __name__ == "__main__":
    unittest.main()
