import itertools
import unittest

from strayplates.errors import BadPatch, NoStep
from strayplates.patch import Patch
from strayplates.patchlean import exchanged, lean_patch, loses, needless_steps, undoes
from strayplates.patchpair import PatchPair, judge_patches
from strayplates.plate import Plate, plate_of
from tests.tools import ODD, Checks, listed, rng

EVERY = (("set", 1, 2), ("clear", 0, 0), ("take", 0, 0, 1, 1), ("join", 0, 0, 0, 1), ("move", 1, -2), ("grow", 0, 1))
FAR = (300, 300)


def made(steps, cells):
    """What the steps make of a set of cells, told plainly."""
    has = set(cells)
    for kind, *told in steps:
        first, last = tuple(told[:2]), tuple(told[-2:])
        if kind == "set":
            has = has | {first}
        elif kind == "clear":
            has = has - {first}
        elif kind == "take":
            has = has | {last} if first in has else has - {last}
        elif kind == "join":
            has = has | {last} if first in has else has
        else:
            moved = {(row + told[0], column + told[1]) for row, column in has}
            has = moved if kind == "move" else has | moved
    return has


def random_step(chance, kinds=("set", "clear", "take", "join", "move", "grow"), reach=2, far=1):
    kind = chance.choice(kinds)
    size = far if kind in ("move", "grow") else reach
    many = 4 if kind in ("take", "join") else 2
    return (kind, *[chance.randint(-size, size) for _ in range(many)])


def random_patch(chance, most=5, **more):
    return Patch([random_step(chance, **more) for _ in range(chance.randint(0, most))])


def random_cells(chance, reach=4, most=6):
    return {(chance.randint(-reach, reach), chance.randint(-reach, reach)) for _ in range(chance.randint(0, most))}


def plate(cells):
    return Plate(sorted(cells))


class PatchTest(unittest.TestCase, Checks):
    def test_attributes(self):
        patch = Patch(listed(EVERY))
        self.assertEqual((patch.steps, len(patch), tuple(patch)), (EVERY, 6, EVERY))
        self.assert_tuples(patch.steps)
        self.assertTrue(patch == Patch(EVERY))
        self.assertTrue(patch != Patch(EVERY[1:]))
        self.assertEqual((Patch().steps, Patch() == Patch([])), ((), True))
        for thing in ODD:
            self.assertIs(patch == thing, False)

    def test_each_kind_of_step(self):
        for step, cells, expected in (
                (("set", 1, 2), (), ((1, 2),)), (("set", 1, 2), ((1, 2), (3, 3)), ((1, 2), (3, 3))),
                (("clear", 0, 0), ((0, 0), (0, 1)), ((0, 1),)), (("clear", 0, 0), ((0, 1),), ((0, 1),)),
                (("take", 0, 0, 1, 1), ((0, 0),), ((0, 0), (1, 1))), (("take", 0, 0, 1, 1), ((1, 1), (2, 2)), ((2, 2),)),
                (("take", 0, 0, 1, 1), ((0, 0), (1, 1)), ((0, 0), (1, 1))), (("take", 0, 0, 1, 1), (), ()),
                (("take", 0, 0, 0, 0), ((0, 0),), ((0, 0),)), (("take", 0, 0, 0, 0), (), ()),
                (("join", 0, 0, 1, 1), ((0, 0),), ((0, 0), (1, 1))), (("join", 0, 0, 1, 1), ((1, 1),), ((1, 1),)),
                (("join", 0, 0, 1, 1), (), ()), (("join", 0, 0, 0, 0), (), ()),
                (("move", 1, -2), ((0, 0), (50, -50)), ((1, -2), (51, -52))), (("move", 0, 0), ((0, 0),), ((0, 0),)),
                (("grow", 0, 1), ((0, 0), (0, 1)), ((0, 0), (0, 1), (0, 2))), (("grow", -5, 5), (), ())):
            patch = Patch((step,))
            ahead = Plate(cells)
            self.assertEqual(patch(ahead).cells, expected)
            self.assertEqual((ahead.cells, type(patch(ahead))), (cells, Plate))

    def test_steps_one_behind_the_other(self):
        self.assertEqual(Patch((("set", 0, 0), ("move", 0, 1), ("set", 0, 0)))(Plate()).cells, ((0, 0), (0, 1)))
        self.assertEqual(Patch((("set", 0, 0), ("clear", 0, 0)))(Plate(((0, 0),))).cells, ())
        self.assertEqual(Patch((("clear", 0, 0), ("set", 0, 0)))(Plate()).cells, ((0, 0),))
        self.assertEqual(Patch()(Plate(((3, 4),))).cells, ((3, 4),))
        self.assertEqual(len(Patch((("grow", 1, 0),) * 8)(Plate(((0, 0),)))), 9)
        self.assertEqual(len(Patch([("grow", 5, k - 4) for k in range(8)])(Plate.block(0, 0, 10, 10))) > 200, True)

    def test_bounds(self):
        for kind, many, bound in (("set", 2, 20), ("clear", 2, 20), ("take", 4, 20), ("join", 4, 20), ("move", 2, 5),
                                  ("grow", 2, 5)):
            for at, sign in itertools.product(range(many), (-1, 1)):
                numbers = [0] * many
                numbers[at] = sign * bound
                self.assertEqual(Patch([[kind, *numbers]]).steps, ((kind, *numbers),))
                for wrong in (sign * (bound + 1), True, None, 1.0, "1"):
                    numbers[at] = wrong
                    self.assert_error(BadPatch, {"number": 1}, Patch, (("set", 0, 0), (kind, *numbers), None))
            for count in (0, 1, many - 1, many + 1):
                self.assert_error(BadPatch, {"number": 0}, Patch, ((kind, *[0] * count),))

    def test_errors(self):
        for thing in ODD + ("grow", {"set": 1}, EVERY[:1] * 9, (None,) * 9):
            if thing != () and not isinstance(thing, (tuple, list)) or len(thing) == 9:
                self.assert_error(BadPatch, {"number": -1}, Patch, thing)
            self.assert_error(BadPatch, {"number": 2}, Patch, (*EVERY[:2], thing, None))
        for kind in ("Set", "", "put", "set ", "sets", None, 3, ("set",), [], {}, True, b"set"):
            self.assert_error(BadPatch, {"number": 0}, Patch, [[kind, 0, 0]])
        self.assertEqual(len(Patch((EVERY[0],) * 8)), 8)

    def test_sums_and_steps_left_out(self):
        patch = Patch(EVERY)
        self.assertEqual((patch + Patch(EVERY[:2])).steps, EVERY + EVERY[:2])
        self.assert_error(BadPatch, {"number": -1}, lambda: patch + Patch(EVERY[:3]))
        self.assertEqual([patch.but(k).steps for k in (0, 5)], [EVERY[1:], EVERY[:5]])
        for thing in (-1, 6, True, False, None, "0", 1.0, (0,), 10 ** 39):
            self.assert_error(NoStep, {"many": thing}, patch.but, thing)
        self.assert_error(NoStep, {"many": 0}, Patch().but, 0)
        self.assertEqual(patch.steps, EVERY)

    def test_offsets(self):
        self.assertEqual(Patch().offsets, ((0, 0),))
        self.assertEqual(Patch((("set", 3, 3), ("move", 1, 2), ("move", -4, 0))).offsets, ((-3, 2),))
        self.assertEqual(Patch((("grow", 1, 0), ("move", 0, 1), ("grow", -1, 0))).offsets, ((-1, 1), (0, 1), (1, 1)))
        self.assertEqual(Patch((("grow", 0, 0), ("grow", 0, 0))).offsets, ((0, 0),))
        self.assertEqual(len(Patch([("grow", k - 4, 5) for k in range(8)]).offsets) > 40, True)
        self.assert_tuples(Patch(listed(EVERY)).offsets)

    def test_special_cells(self):
        self.assertEqual(Patch((("move", 1, 1), ("grow", 2, 2))).special, ())
        self.assertEqual(Patch((("take", 3, 4, 0, 1), ("set", 2, 2))).special, ((0, 1), (2, 2), (3, 4)))
        self.assertEqual(Patch((("move", 1, 2), ("clear", 0, 0))).special, ((-1, -2),))
        self.assertEqual(Patch((("grow", 1, 2), ("join", 0, 0, 5, 5), ("move", 4, 4))).special,
                         ((-1, -2), (0, 0), (4, 3), (5, 5)))
        self.assertEqual(Patch((("set", 0, 0), ("move", 5, 5), ("set", 0, 0))).special, ((-5, -5), (0, 0)))

    def test_against_plain_ways(self):
        chance = rng(501)
        kinds = set()
        for _ in range(400):
            patch = random_patch(chance, 8)
            kinds |= {step[0] for step in patch}
            one, other = random_cells(chance), random_cells(chance)
            self.assertEqual(patch(plate(one)).cells, tuple(sorted(made(patch.steps, one))))
            both = patch(plate(one)) + patch(plate(other))
            self.assertEqual(patch(plate(one | other)), both)
            always = made(patch.steps, ())
            self.assertEqual(patch.always, plate(always))
            for cell in [*random_cells(chance), FAR, *patch.special[:4]]:
                images = made(patch.steps, {cell}) - always
                self.assertEqual(patch.images(list(cell)), tuple(sorted(images)))
                self.assert_tuples(patch.images(list(cell)))
                if cell not in patch.special:
                    moved = {(cell[0] + rows, cell[1] + columns) for rows, columns in patch.offsets}
                    self.assertEqual(images, moved - always)
            whole = set(patch.always.cells)
            for cell in one:
                whole |= set(patch.images(cell))
            self.assertEqual(patch(plate(one)), plate(whole))
        self.assertEqual(len(kinds), 6)

    def test_asked_by_turns(self):
        one, other = Patch(EVERY), Patch(EVERY[::-1])
        told = [(one(Plate(((0, 0),))).cells, other(Plate(((0, 0),))).cells, one.special, other.offsets, one.always.cells,
                 other.images((0, 0)), one.images((9, 9)), other.special) for _ in range(2)]
        self.assertEqual(told[0], told[1])
        steps = listed(EVERY)
        patch = Patch(steps)
        steps[0][0] = "clear"
        steps.pop()
        self.assertEqual(patch.steps, EVERY)


def needed_cells(first, second):
    return [None, *sorted(set(first.special) | set(second.special)), FAR]


def alone(cell):
    return set() if cell is None else {cell}


def parting(first, second):
    """The first of the plates of [35] that parts them, as a set, or None."""
    for cell in needed_cells(first, second):
        if made(first.steps, alone(cell)) != made(second.steps, alone(cell)):
            return alone(cell)
    return None


def changed_patch(chance, patch):
    """A patch that is often alike the other one."""
    steps = list(patch.steps)
    for _ in range(chance.randint(0, 2)):
        at = chance.randint(0, len(steps))
        deed = chance.randint(0, 4)
        if deed == 0 and at < len(steps) - 1:
            steps[at], steps[at + 1] = steps[at + 1], steps[at]
        elif deed == 1 and at < len(steps):
            steps[at:at + 1] = [steps[at], steps[at]]
        elif deed == 2 and at < len(steps):
            steps.pop(at)
        elif deed == 3:
            steps.insert(at, chance.choice((("move", 0, 0), ("take", 1, 1, 1, 1), ("join", 2, 0, 2, 0), ("grow", 0, 0))))
        else:
            steps.insert(at, random_step(chance))
    return Patch(steps[:8])


class PatchPairTest(unittest.TestCase, Checks):
    def test_small_ones(self):
        first, second = Patch((("take", 0, 0, 0, 1),)), Patch((("clear", 0, 1), ("join", 0, 0, 0, 1)))
        pair = PatchPair(first, second)
        self.assertTrue(pair)
        table = ((None, ()), ((0, 0), ((0, 0), (0, 1))), ((0, 1), ()), (FAR, (FAR,)))
        self.assertEqual((pair.table, pair.plate, len(pair), tuple(pair)), (table, None, 4, table))
        self.assert_tuples(pair.table)
        self.assertEqual(PatchPair(Patch(), Patch((("move", 0, 0),))).table, ((None, ()), (FAR, (FAR,))))

    def test_what_parts_them(self):
        for first, second, cells in (((("set", 1, 1),), (), ()), ((("clear", 1, 1),), (), ((1, 1),)),
                                     ((("move", 0, 1),), (), (FAR,)), ((("grow", 5, 5),), (), (FAR,)),
                                     ((("take", 0, 0, 0, 1),), (("join", 0, 0, 0, 1),), ((0, 1),)),
                                     ((("join", 0, 0, 0, 1),), (), ((0, 0),))):
            pair = PatchPair(Patch(first), Patch(second))
            self.assertFalse(pair)
            self.assertEqual((pair.plate.cells, pair.table, len(pair), list(pair)), (cells, None, 0, []))
            self.assertIs(type(pair.plate), Plate)

    def test_against_plain_ways(self):
        chance = rng(503)
        alike = apart = 0
        window = [(row, column) for row in range(-9, 10) for column in range(-9, 10)] + [FAR, None]
        for _ in range(500):
            first = random_patch(chance, 5)
            second = changed_patch(chance, first)
            pair = PatchPair(first, second)
            least = parting(first, second)
            self.assertEqual((bool(pair), pair.plate), (least is None, None if least is None else plate_of(least)))
            if pair:
                alike += 1
                told = [(cell, tuple(sorted(made(first.steps, alone(cell))))) for cell in needed_cells(first, second)]
                self.assertEqual(pair.table, tuple(told))
                for _ in range(20):
                    cells = random_cells(chance, 5, 3)
                    self.assertEqual(made(first.steps, cells), made(second.steps, cells))
            else:
                apart += 1
                self.assertNotEqual(first(pair.plate), second(pair.plate))
            if chance.random() < 0.2:
                # The plates of [35] tell it, whatever single cell there is.
                every = all(made(first.steps, alone(cell)) == made(second.steps, alone(cell)) for cell in window)
                self.assertIs(every, bool(pair))
        self.assertGreater(min(alike, apart), 100)

    def test_judging_what_is_told(self):
        chance = rng(505)
        judged = 0
        for _ in range(300):
            first = random_patch(chance, 4)
            second = changed_patch(chance, first)
            table = [(cell, tuple(sorted(made(first.steps, alone(cell))))) for cell in needed_cells(first, second)]
            right = [made(second.steps, alone(cell)) == set(cells) for cell, cells in table]
            self.assertEqual(judge_patches(first, second, table), None if all(right) else right.index(False))
            if not all(right):
                continue
            judged += 1
            rows = table * 2
            chance.shuffle(rows)
            self.assertIsNone(judge_patches(first, second, listed(rows)))
            at = chance.randrange(len(table))
            self.assertEqual(judge_patches(first, second, table[:at] + table[at + 1:]), -1)
            spoilt = table[:at] + [(table[at][0], (*table[at][1], (400, 400)))] + table[at + 1:]
            self.assertEqual(judge_patches(first, second, spoilt), at)
            more = chance.choice([(7, 7), (-9, 0), (10 ** 30, 3)])
            self.assertIsNone(judge_patches(first, second, [(more, tuple(sorted(made(first.steps, {more})))), *table]))
            self.assertEqual(judge_patches(first, second, [*table, (more, ())]), len(table) if made(first.steps, {more}) else None)
        self.assertGreater(judged, 80)

    def test_rows_that_have_not_the_form(self):
        first, second = Patch((("take", 0, 0, 0, 1),)), Patch((("clear", 0, 1), ("join", 0, 0, 0, 1)))
        table = PatchPair(first, second).table
        for thing in (None, 3, "ab", {}, (), table[1:], table[:-1], ((None,),)):
            self.assertEqual(judge_patches(first, second, thing), -1)
        for row in (None, 3, "ab", (), (None,), (None, (), ()), ((0, 0), None), ((0, 0), "ab"), ((0, True), ((0, 0), (0, 1))),
                    ((0,), ()), ("ab", ()), ((0, 0), ((0, 0), (0, True))), ((0, 0), ((0, 0), (0, 1, 0))), ((0, 0), (None,)),
                    ((0, 0), ((0, 0), 1)), (True, ()), ({1: 2}, ())):
            self.assertEqual(judge_patches(first, second, (*table, row)), 4)
            self.assertEqual(judge_patches(first, second, [listed(row), *table]), 0)
            # Such a row stands for nothing, so that the row of (0, 0) lacks.
            self.assertEqual(judge_patches(first, second, (table[0], row, *table[2:])), -1)
        for cells in (((0, 1), (0, 0)), ((0, 0), (0, 0), (0, 1)), ((0, 0),)):
            self.assertEqual(judge_patches(first, second, (table[0], ((0, 0), cells), *table[2:])), 1)


class LeanTest(unittest.TestCase, Checks):
    def test_exchange(self):
        move, grow, put = Patch((("move", 1, 2),)), Patch((("grow", 0, 1),)), Patch((("set", 0, 0),))
        self.assertIs(exchanged(move, grow), True)
        self.assertIs(exchanged(put, put), True)
        self.assertIs(exchanged(move, put), False)
        self.assertIs(exchanged(Patch((("clear", 0, 0),)), put), False)
        self.assertIs(exchanged(Patch((("clear", 0, 1),)), put), True)
        self.assertIs(exchanged(Patch(), put), True)

    def test_undoing(self):
        self.assertIs(undoes(Patch((("move", 1, 2),)), Patch((("move", -1, -2),))), True)
        self.assertIs(undoes(Patch((("move", 1, 2),)), Patch((("move", -1, 2),))), False)
        self.assertIs(undoes(Patch(), Patch()), True)
        self.assertIs(undoes(Patch((("set", 0, 0),)), Patch((("clear", 0, 0),))), False)
        # A join with a cell on itself does nothing, so it undoes the empty patch; order counts otherwise.
        self.assertIs(undoes(Patch(), Patch((("join", 1, 1, 1, 1),))), True)
        self.assertIs(undoes(Patch((("move", 5, 0), ("move", 0, 5))), Patch((("move", -5, -5),))), True)

    def test_more_than_8_steps(self):
        five, three, four = [Patch((("move", 0, 0),) * many) for many in (5, 3, 4)]
        for call in (exchanged, undoes):
            self.assertIs(call(five, three), True)
            self.assert_error(BadPatch, {"number": -1}, call, five, four)
            self.assert_error(BadPatch, {"number": -1}, call, four, five)

    def test_against_plain_ways(self):
        chance = rng(507)
        met = {"exchanged": 0, "undone": 0, "needless": 0, "shorter": 0}
        for _ in range(250):
            one, other = random_patch(chance, 3), random_patch(chance, 3)
            swaps = parting(one + other, other + one) is None
            self.assertIs(exchanged(one, other), swaps)
            met["exchanged"] += swaps
            shifts = random_patch(chance, 2, kinds=("move", "grow"))
            undone = parting(shifts + other, Patch()) is None
            self.assertIs(undoes(shifts, other), undone)
            back = Patch([(kind, -rows, -columns) for kind, rows, columns in shifts.steps[::-1]])
            self.assertIs(undoes(shifts, back), parting(shifts + back, Patch()) is None)
            met["undone"] += undoes(shifts, back)
            patch = changed_patch(chance, random_patch(chance, 5))
            needless = [k for k in range(len(patch)) if parting(patch, Patch(patch.steps[:k] + patch.steps[k + 1:])) is None]
            self.assertEqual(needless_steps(patch), tuple(needless))
            met["needless"] += bool(needless)
            steps = list(patch.steps)
            while True:
                fit = [k for k in range(len(steps)) if parting(Patch(steps), Patch(steps[:k] + steps[k + 1:])) is None]
                if not fit:
                    break
                steps.pop(fit[-1])
            lean = lean_patch(patch)
            self.assertEqual(lean.steps, tuple(steps))
            self.assertTrue(PatchPair(patch, lean))
            self.assertEqual(needless_steps(lean), ())
            met["shorter"] += len(lean) < len(patch)
        self.assertGreater(min(met.values()), 20)

    def test_needless_steps_by_turns(self):
        # Each of two equal steps is needless, but not both.
        patch = Patch((("set", 0, 0), ("set", 0, 0), ("move", 0, 0)))
        self.assertEqual(needless_steps(patch), (0, 1, 2))
        self.assertEqual(lean_patch(patch).steps, (("set", 0, 0),))
        self.assertEqual((needless_steps(Patch()), lean_patch(Patch()) == Patch()), ((), True))
        self.assert_tuples(needless_steps(patch))


class LosesTest(unittest.TestCase, Checks):
    def check(self, patch):
        """The two plates that are told; True if there are some."""
        told = loses(patch)
        if told is None:
            return False
        one, other = told
        self.assertEqual((type(told), type(one), type(other)), (tuple, Plate, Plate))
        self.assertNotEqual(one, other)
        self.assertEqual(patch(one), patch(other))
        self.assertEqual(made(patch.steps, one.cells), made(patch.steps, other.cells))
        return True

    def test_small_ones(self):
        for steps, expected in (((), False), ((("move", 3, 4),), False), ((("grow", 0, 0),), False), ((("grow", 0, 1),), True),
                                ((("set", 0, 0),), True), ((("clear", 0, 0),), True), ((("take", 0, 0, 0, 1),), True),
                                ((("join", 0, 0, 0, 1),), True), ((("join", 0, 0, 0, 0), ("take", 1, 1, 1, 1)), False),
                                ((("move", 5, 5), ("set", 20, 20)), True), ((("move", 5, 5), ("clear", -20, 20)), True)):
            self.assertIs(self.check(Patch(steps)), expected, steps)

    def test_a_join_alone_loses(self):
        # The cell (0, 1) comes of (0, 1) and of (0, 0), so beside (0, 0) it makes nothing new.
        one, other = loses(Patch((("join", 0, 0, 0, 1),)))
        self.assertEqual({one.cells, other.cells}, {((0, 0),), ((0, 0), (0, 1))})

    def test_against_plain_ways(self):
        chance = rng(509)
        lost = kept = 0
        window = [(row, column) for row in range(-12, 13) for column in range(-12, 13)]
        for _ in range(600):
            kinds = chance.choice((("move", "take"), ("move", "join", "take"), ("move", "clear", "join"), ("move",),
                                   ("take", "clear", "move"), ("take", "join", "clear", "set"), ("move", "set", "join", "clear", "take", "grow")))
            patch = random_patch(chance, chance.randint(0, 5), kinds=kinds, reach=chance.randint(1, 2))
            always = made(patch.steps, ())
            images = {cell: made(patch.steps, {cell}) - always for cell in window}
            sources = {}
            for cell in window:
                for image in images[cell]:
                    sources.setdefault(image, set()).add(cell)
            expected = any(all(sources[image] != {cell} for image in images[cell]) for cell in window
                           if max(abs(cell[0]), abs(cell[1])) <= 7)
            self.assertIs(self.check(patch), expected, patch.steps)
            lost += expected
            kept += not expected
            if not expected:
                for _ in range(20):
                    one, other = random_cells(chance, 3), random_cells(chance, 3)
                    self.assertEqual(patch(plate(one)) == patch(plate(other)), one == other)
        self.assertGreater(min(lost, kept), 50)

    def test_many_offsets(self):
        for patch in (Patch([("grow", 5, k - 4) for k in range(8)]), Patch([*[("grow", 1, k - 3) for k in range(7)], ("set", 0, 0)]),
                      Patch([*[("grow", 0, k - 3) for k in range(6)], ("take", 0, 0, 1, 1), ("clear", 0, 0)])):
            self.assertTrue(self.check(patch))


if __name__ == "__main__":
    unittest.main()
