import itertools
import unittest
from unittest import mock

from strayplates.common import Finding
from strayplates.errors import TooMany
from strayplates.plan import Plan
from strayplates.toldback import ToldBack, judge_told_back
from strayplates.within import Within, judge_within, same_tapes
from tests.test_plan import random_plan, told_designs
from tests.test_verdicts import found, judged
from tests.tools import Checks, listed, rng

BEGINNING, END = (-1, 0), (-2, 0)
START = (BEGINNING, BEGINNING, False)
PARTED = (END, END, True)


def nexts(plan, place):
    """The next places, told plainly from the designs: a place is live if its motif is."""
    names = [name for name, _ in plan.motifs]
    if place == END:
        return [END]
    if place == BEGINNING:
        return [(k, 1) for k, name in enumerate(names) if name in plan.live and name in plan.first]
    number, known = place
    name, tape = plan.motifs[number]
    if known < len(tape):
        return [(number, known + 1)]
    begun = [(k, 1) for k, other in enumerate(names) if other in plan.live and (name, other) in plan.joints]
    return ([END] if name in plan.last else []) + begun


def hue(plan, place):
    return "white" if place == END else plan.motifs[place[0]][1][place[1] - 1]


def names_of(plan, places):
    return tuple([plan.motifs[number][0] for number, known in places if known == 1])


def side_by_side(plan):
    def moves(standing):
        place, other, parted = standing
        if END in (place, other):
            return
        for one, two in itertools.product(nexts(plan, place), nexts(plan, other)):
            if (one == END) == (two == END) and hue(plan, one) == hue(plan, two):
                yield (one, two), (one, two, parted or one != two)
    return moves


def back_or_pair(plan):
    """The table and None, or None and the two designs by which the last standing is found first."""
    moves = side_by_side(plan)
    table, story = found(START, lambda standing: [(step, None if follow == PARTED else follow) for step, follow in moves(standing)])
    if story is None:
        return table, None
    return None, tuple([names_of(plan, [step[at] for step in story]) for at in (0, 1)])


def all_places(plan):
    return [BEGINNING, END, *[(k, i) for k, (_, tape) in enumerate(plan.motifs) for i in range(1, len(tape) + 1)]]


class ToldBackTest(unittest.TestCase, Checks):
    def test_a_plan_that_can_be_told_back(self):
        plan = Plan((("a", ("red", "blue")), ("b", ("red",))), (("a", "b"), ("b", "a")), ("a", "b"), ("a", "b"))
        told = ToldBack(plan)
        self.assertTrue(told)
        self.assertEqual(told.table[:4], (START, ((0, 1), (0, 1), False), ((0, 1), (1, 1), True), ((1, 1), (0, 1), True)))
        self.assertIn((END, END, False), told.table)
        self.assertEqual((told.pair, len(told), tuple(told)), (None, len(told.table), told.table))
        self.assert_tuples(told.table)

    def test_a_plan_that_cannot(self):
        plan = Plan((("a", ("red",)), ("b", ("red", "red"))), (("a", "a"),), ("a", "b"), ("a", "b"))
        told = ToldBack(plan)
        self.assertFalse(told)
        self.assertEqual((told.pair, told.table, len(told), list(told)), ((("a", "a"), ("b",)), None, 0, []))
        self.assert_tuples(told.pair)
        # Two motifs with the same tape, one of which is in no design.
        twins = (("a", ("red",)), ("b", ("red",)))
        self.assertEqual(ToldBack(Plan(twins, (), ("a", "b"), ("a", "b"))).pair, (("a",), ("b",)))
        self.assertTrue(ToldBack(Plan(twins, (("a", "b"),), ("a",), ("a",))))

    def test_no_designs(self):
        told = ToldBack(Plan((("a", ("red",)),)))
        self.assertTrue(told)
        self.assertEqual((told.table, told.pair), ((START,), None))

    def test_white_at_the_end_is_not_the_end(self):
        plan = Plan((("a", ("white",)), ("b", ("red",))), (("a", "a"), ("b", "a")), ("b",), ("a", "b"))
        self.assertTrue(ToldBack(plan))

    def test_against_all_designs(self):
        chance = rng(521)
        kept = lost = 0
        for _ in range(300):
            plan = random_plan(chance, ("red", "blue", "white"), 4, chance.choice((0.3, 0.5, 0.7, 1)))
            told = ToldBack(plan)
            self.assertEqual((told.table, told.pair), back_or_pair(plan))
            self.assertIs(bool(told), told.pair is None)
            tapes = {}
            for design in told_designs(plan, 5):
                tapes.setdefault(plan.tape_of(design), []).append(design)
            if told:
                kept += 1
                self.assertEqual([designs for designs in tapes.values() if len(designs) > 1], [])
                self.check_table(chance, plan, told.table)
            else:
                lost += 1
                one, other = told.pair
                self.assertIn(one, plan)
                self.assertIn(other, plan)
                self.assertNotEqual(one, other)
                tape = sum([dict(plan.motifs)[name] for name in one], ())
                self.assertEqual(tape, sum([dict(plan.motifs)[name] for name in other], ()))
                # No two designs with the same tape have a shorter one.
                lengths = [len(shorter) for shorter, designs in tapes.items() if len(designs) > 1]
                self.assertTrue(not lengths or min(lengths) >= len(tape))
        self.assertGreater(min(kept, lost), 40)

    def check_table(self, chance, plan, table):
        moves = side_by_side(plan)
        self.assertIsNone(judge_told_back(plan, table))
        self.assertIsNone(judge_told_back(plan, listed(table[::-1] + table)))
        for _ in range(3):
            rows = list(table)
            at = chance.randrange(len(rows))
            rows.pop(at)
            self.assertEqual(judge_told_back(plan, rows), judged(START, moves, table, rows))
        self.assertEqual(judge_told_back(plan, (*table, PARTED)), -1)
        places = all_places(plan)
        row = (chance.choice(places), chance.choice(places), chance.random() < 0.5)
        rows = (*table, row) if row != PARTED else table
        known = set(rows)
        wrong = [k for k, told in enumerate(rows) if any(follow not in known for _, follow in moves(told))]
        self.assertEqual(judge_told_back(plan, rows), wrong[0] if wrong else None)

    def test_judging_a_plan_that_cannot_be_told_back(self):
        plan = Plan((("a", ("red",)), ("b", ("red",))), (), ("a", "b"), ("a", "b"))
        rows = [(one, other, parted) for one in all_places(plan) for other in all_places(plan) for parted in (False, True)
                if (one, other, parted) != PARTED]
        rows = [START, *[row for row in rows if row != START]]
        number = judge_told_back(plan, rows)
        self.assertEqual((rows[number][:2]), ((0, 1), (0, 1)))
        self.assertIs(rows[number][2], True)
        self.assertEqual(judge_told_back(plan, [*rows, PARTED]), -1)

    def test_rows_that_have_not_the_form(self):
        plan = Plan((("a", ("red", "blue")), ("dead", ("red",))), (("a", "a"),), ("a",), ("a",))
        table = ToldBack(plan).table
        for thing in (None, 3, "abc", {}, (), table[1:], ((BEGINNING, BEGINNING, 0), *table[1:])):
            self.assertEqual(judge_told_back(plan, thing), -1)
        place = (0, 1)
        for row in (None, (), "abc", 3, (place, place), (place, place, False, 0), (place, place, 0), (place, place, 1),
                    (place, place, None), (place, (0, 3), False), ((0, 0), place, False), ((2, 1), place, False),
                    ((-3, 0), place, False), ((-1, 1), place, False), (place, (-2, 1), False), ((0, True), place, False),
                    ((False, 1), place, False), (0, place, False), (place, "ab", False), (place, (0, 1, 2), False),
                    (place, (1, 2), True), (END, END, 1)):
            self.assertEqual(judge_told_back(plan, (*table, row)), len(table), row)
            self.assertEqual(judge_told_back(plan, [listed(row), *table]), 0)
        # A place of a motif that is not live is one, too; where one has ended, nothing follows.
        for row in (((1, 1), (0, 1), True), (END, (0, 1), True), (END, BEGINNING, False), ((0, 2), END, True)):
            self.assertIsNone(judge_told_back(plan, (row, *table, row)))

    def test_asked_by_turns(self):
        one, other = random_plan(rng(523)), random_plan(rng(525))
        told = [(ToldBack(one).table, ToldBack(other).table, ToldBack(one).pair, ToldBack(other).pair) for _ in range(2)]
        self.assertEqual(told[0], told[1])


def places_moves(first, second):
    """From each standing, those that follow, told plainly."""
    def moves(standing):
        place, others = standing
        for further in nexts(first, place):
            if further != END:
                led = {other for here in others for other in nexts(second, here)
                       if other != END and hue(second, other) == hue(first, further)}
                yield further, (further, tuple(sorted(led)))
    return moves


def spoils(first, second, standing):
    place, others = standing
    return END in nexts(first, place) and not any(END in nexts(second, other) for other in others)


def within_or_design(first, second, most=2000):
    """The table and None, None and the design, or "many"."""
    start = (BEGINNING, (BEGINNING,))
    stories = {start: ()}
    waiting = [start]
    for standing in waiting:
        for step, follow in places_moves(first, second)(standing):
            if follow not in stories:
                if len(waiting) == most:
                    return "many"
                stories[follow] = (*stories[standing], step)
                waiting.append(follow)
                if spoils(first, second, follow):
                    return None, names_of(first, stories[follow])
    return tuple(waiting), None


def counting(tail):
    """Two plans: with a tail of so many columns, 1996 and so many standings."""
    red = ("red",)
    end = ("t", ("blue",) * tail)
    lengths = (("a", 6), ("b", 6), ("c", 5), ("d", 2))
    loops = tuple(itertools.product("abcd", repeat=2)) + tuple([(name, "t") for name in "abcd"])
    first = Plan((*[(name, red * many) for name, many in lengths], end), sorted(loops), tuple("abcd"), ("t",))
    # Side by side, one column, seven in two motifs, three and five go round, so that there are 105 lots of places.
    second = Plan((("one", red), ("a", red * 4), ("b", red * 3), ("c", red * 3), ("d", red * 5), end),
                  (("a", "b"), ("b", "a"), ("b", "t"), ("c", "c"), ("c", "t"), ("d", "d"), ("d", "t"), ("one", "one"), ("one", "t")),
                  ("a", "c", "d", "one"), ("t",))
    return first, second


class WithinTest(unittest.TestCase, Checks):
    def test_small_ones(self):
        one = Plan((("a", ("red",)),), (("a", "a"),), ("a",), ("a",))
        two = Plan((("b", ("red", "red")),), (("b", "b"),), ("b",), ("b",))
        told = Within(two, one)
        self.assertTrue(told)
        start = (BEGINNING, (BEGINNING,))
        table = (start, ((0, 1), ((0, 1),)), ((0, 2), ((0, 1),)))
        self.assertEqual((told.table, told.design, len(told), tuple(told)), (table, None, 3, table))
        self.assert_tuples(told.table)
        back = Within(one, two)
        self.assertFalse(back)
        self.assertEqual((back.design, back.table, len(back), list(back)), (("a",), None, 0, []))
        self.assertEqual((same_tapes(one, two), same_tapes(two, one), same_tapes(one, one)), (False, False, True))

    def test_others_become_empty(self):
        one = Plan((("a", ("red",)), ("b", ("blue",))), (("a", "b"),), ("a",), ("b",))
        self.assertEqual(Within(one, Plan((("a", ("red",)),), (), ("a",), ("a",))).design, ("a", "b"))
        # Nothing of a plan without designs lacks, and each design lacks in it.
        none = Plan((("a", ("red",)),), (("a", "a"),), ("a",), ())
        self.assertEqual(Within(none, one).table, ((BEGINNING, (BEGINNING,)),))
        self.assertEqual(Within(one, none).design, ("a", "b"))
        self.assertIs(same_tapes(none, Plan((("x", ("tan",)),))), True)
        long = Plan((("a", ("red", "tan", "red")),), (), ("a",), ("a",))
        self.assertEqual(Within(long, one).design, ("a",))

    def test_several_ways_to_read(self):
        split = Plan((("a", ("red",)), ("b", ("red", "blue"))), (("a", "a"), ("a", "b")), ("a", "b"), ("b",))
        whole = Plan((("x", ("red",)), ("y", ("blue",))), (("x", "x"), ("x", "y")), ("x",), ("y",))
        self.assertIs(same_tapes(split, whole), True)
        self.assertEqual(Within(whole, split).table[1:], (((0, 1), ((0, 1), (1, 1))), ((1, 1), ((1, 2),))))

    def test_against_all_designs(self):
        chance = rng(527)
        kept = lost = same = 0
        for _ in range(400):
            first = random_plan(chance, ("red", "blue"), 3, 0.6)
            second = random_plan(chance, ("red", "blue"), 3, 0.8)
            if chance.random() < 0.5:
                second = self.changed(chance, first)
            expected = within_or_design(first, second)
            told = Within(first, second)
            self.assertEqual((told.table, told.design), expected)
            self.assertIs(bool(told), told.design is None)
            ways = bool(told) and within_or_design(second, first)[1] is None
            self.assertIs(same_tapes(first, second), ways)
            same += ways
            tapes = {second.tape_of(design) for design in told_designs(second, 8 if len(second) < 3 else 5)}
            if told:
                kept += 1
                for design in told_designs(first, 2):
                    if len(first.tape_of(design)) <= 5:
                        self.assertIn(first.tape_of(design), tapes)
                self.check_table(chance, first, second, told.table)
            else:
                lost += 1
                self.assertIn(told.design, first)
                self.assertNotIn(first.tape_of(told.design), tapes)
        self.assertGreater(min(kept, lost), 80)
        self.assertGreater(same, 20)

    def changed(self, chance, plan):
        """A plan with the motifs in another order and with other names, and a joint more or less."""
        names = {name: other for (name, _), other in zip(plan.motifs, chance.sample("uvwxyz", len(plan)))}
        motifs = [(names[name], tape) for name, tape in plan.motifs]
        chance.shuffle(motifs)
        joints = {(names[one], names[other]) for one, other in plan.joints}
        if chance.random() < 0.5:
            joints ^= {(chance.choice(motifs)[0], chance.choice(motifs)[0])}
        return Plan(motifs, sorted(joints), sorted([names[name] for name in plan.first]), sorted([names[name] for name in plan.last]))

    def check_table(self, chance, first, second, table):
        moves = places_moves(first, second)
        self.assertIsNone(judge_within(first, second, table))
        self.assertIsNone(judge_within(first, second, listed(table[::-1] + table)))
        start = table[0]
        for _ in range(3):
            rows = list(table)
            rows.pop(chance.randrange(len(rows)))
            self.assertEqual(judge_within(first, second, rows), judged(start, moves, table, rows))
        # More rows: any place, with any lot of places.
        places = all_places(second)
        row = (chance.choice(all_places(first)), tuple(sorted(chance.sample(places, chance.randint(0, min(4, len(places)))))))
        rows = (*table, row)
        wrong = spoils(first, second, row) or any(follow not in rows for _, follow in moves(row))
        self.assertEqual(judge_within(first, second, rows), len(table) if wrong else None)

    def test_judging_plans_that_are_not_within(self):
        one = Plan((("a", ("red",)),), (("a", "a"),), ("a",), ("a",))
        two = Plan((("b", ("red", "red")),), (("b", "b"),), ("b",), ("b",))
        start = (BEGINNING, (BEGINNING,))
        rows = (start, ((0, 1), ((0, 1),)), ((0, 1), ((0, 2),)))
        # The row from which the one can end, and the other cannot, is the wrong one, not that which leads to it.
        self.assertEqual(judge_within(one, two, rows), 1)
        self.assertEqual(judge_within(one, two, (rows[0], rows[2], rows[1])), 2)
        self.assertEqual(judge_within(one, two, rows[:1]), 0)

    def test_2000_and_2001_standings(self):
        told = Within(*counting(4))
        self.assertEqual((len(told), told.design), (2000, None))
        self.assertIsNone(judge_within(*counting(4), told.table))
        self.assert_error(TooMany, {"word": "standing"}, Within, *counting(5))
        self.assert_error(TooMany, {"word": "standing"}, same_tapes, *counting(5))
        self.assertEqual(judge_within(*counting(5), ()), -1)
        self.assertEqual(judge_within(*counting(5), (told.table[0],)), 0)
        first, second = counting(5)
        # What comes first is told: a design that lacks is found long before the 2001st standing.
        self.assertEqual(Within(Plan(first.motifs, first.joints, first.first, ("a",)), second).design, ("a",))
        # The second way is not asked if the first one is not so.
        self.assertIs(same_tapes(Plan((("x", ("tan",)),), (), ("x",), ("x",)), second), False)
        with mock.patch("strayplates.within.Finding", side_effect=Finding) as finding:
            Within(first, first)
        self.assertEqual(finding.call_args.args[1], 2000)

    def test_too_many_the_second_way(self):
        first, second = counting(5)
        small = Plan((("t", ("blue",) * 5), ("x", ("red",))), (("x", "t"), ("x", "x")), ("x",), ("t",))
        self.assertTrue(Within(small, second))
        self.assertFalse(Within(second, Plan((("x", ("red",)),), (("x", "x"),), ("x",), ("x",))))
        with mock.patch("strayplates.within.Within", side_effect=Within) as within:
            self.assertIs(same_tapes(first, Plan((("x", ("red",)),), (("x", "x"),), ("x",), ("x",))), False)
        self.assertEqual(within.call_count, 1)

    def test_rows_that_have_not_the_form(self):
        one = Plan((("a", ("red", "blue")), ("dead", ("red",))), (("a", "a"),), ("a",), ("a",))
        table = Within(one, one).table
        for thing in (None, 3, "ab", {}, (), table[1:], (None,), ((BEGINNING, BEGINNING), *table[1:])):
            self.assertEqual(judge_within(one, one, thing), -1)
        place = (0, 1)
        for row in (None, (), "ab", 3, (place,), (place, (place,), 0), (place, place), (place, None), (place, "ab"), (None, (place,)),
                    ((0, 3), (place,)), ((2, 1), (place,)), ((0, True), (place,)), ((-1, 1), (place,)), (place, ((0, 3),)),
                    (place, ((0, True),)), (place, ((0, 2), (0, 1))), (place, (place, place)), (place, (None,)), (place, (0, 1)),
                    (place, ((-3, 0),)), (place, (place, (0, 2, 0)))):
            self.assertEqual(judge_within(one, one, (*table, row)), len(table), row)
            self.assertEqual(judge_within(one, one, [listed(row), *table]), 0)
        # The end, and places of motifs that are not live, are places, too.
        for row in ((END, (END,)), ((1, 1), ()), ((1, 1), ((1, 1), (0, 1))[::-1]), ((0, 1), (END, BEGINNING, (1, 1)))):
            rows = (*table, row)
            wrong = spoils(one, one, row) or any(follow not in rows for _, follow in places_moves(one, one)(row))
            self.assertEqual(judge_within(one, one, rows), len(table) if wrong else None)

    def test_asked_by_turns(self):
        one, other = random_plan(rng(529)), random_plan(rng(531))
        told = [(Within(one, other).table, Within(other, one).design, same_tapes(one, one)) for _ in range(2)]
        self.assertEqual(told[0], told[1])


if __name__ == "__main__":
    unittest.main()
