import itertools
import unittest

from strayplates.asking import want_told
from strayplates.book import Book
from strayplates.cases import Cases, Ground, Tree, judge_cases
from strayplates.claims import holds
from strayplates.errors import BadBars, BadClaim, BadPalette, TooMany
from strayplates.forms import forms, met
from strayplates.pagebars import PageBars
from strayplates.picture import Picture
from strayplates.press import Press
from strayplates.shelf import Shelf
from strayplates.words import neighbours
from tests.tools import ODD, ROSE, SKY, SUN, Checks, listed, lots, plain_book, random_book, random_picture, rng, two_press

PALETTE = ("blue", "red")
SHUT = ("shut", "across", "yellow", "blue", 1)
BARS = (("blue", "red"),)


def told_tree(press, book, palette, bars, lie, form, told=(), rows=None):
    """The tree of cases, row by row as [25] tells it."""
    rows = [] if rows is None else rows
    number = len(rows)
    answers = [want_told(press, book, lie, told, want) for want in form]
    asked = [answer[1] for answer in answers if answer[0] == "needs"]
    rows.append(("open",))
    if ("unmet",) in answers:
        rows[number] = ("shut", answers.index(("unmet",)))
    elif asked:
        colours = {(row, column): hue for row, column, hue in told}
        follows = []
        for hue in ("white", *palette):
            beside = [colours.get(cell) for cell in neighbours(asked[0])]
            if any(set(bar) == {hue, other} for bar in bars for other in beside):
                follows.append(-1)
            else:
                follows.append(len(rows))
                told_tree(press, book, palette, bars, lie, form, tuple(sorted([*told, (*asked[0], hue)])), rows)
        rows[number] = ("ask", asked[0], tuple(follows))
    return rows


def keeps(page, bars):
    return not any(tuple(sorted((hue, page[other]))) in bars
                   for row, column, hue in page for other in neighbours((row, column)))


class CasesTest(unittest.TestCase, Checks):
    def setUp(self):
        self.press, self.book = two_press(), plain_book()

    def cases(self, claim=SHUT, bars=BARS):
        return Cases(self.press, self.book, PALETTE, claim, bars=bars)

    def test_example(self):
        cases = Cases(self.press, self.book, PALETTE, SHUT)
        self.assertFalse(cases)
        self.assertEqual((cases.table, cases.lie, cases.form), (None, 1, 0))
        self.assertEqual(cases.broken_page, Picture(((0, 0, "red"), (0, 1, "blue"))))
        self.assertEqual((len(cases), list(cases)), (0, []))
        true = Cases(two_press((), (0, 0)), self.book, PALETTE, SHUT)
        self.assertTrue(true)
        self.assertEqual({row[0] for tree in true for row in tree}, {"ask", "shut"})

    def test_a_tree_row_by_row(self):
        press = Press(Shelf((SUN,)), (("sun", 0),))
        cases = Cases(press, Book((("red", "left", "blue", ("sun",)),)), PALETTE, ("never", "green"))
        self.assertEqual(cases.table, ((
            ("ask", (0, 0), (1, 2, 3)), ("shut", 0), ("shut", 0), ("ask", (0, -1), (4, 5, 6)),
            ("shut", 0), ("shut", 0), ("shut", 0)),))
        self.assertEqual(cases.table[0], tuple(cases)[0])
        barred = Cases(press, Book((("red", "left", "blue", ("sun",)),)), PALETTE, ("never", "yellow"), bars=BARS)
        self.assertEqual(barred.table, ((
            ("ask", (0, 0), (1, 2, 3)), ("shut", 0), ("shut", 0), ("ask", (0, -1), (4, -1, 5)),
            ("shut", 0), ("shut", 0)),))

    def test_attributes(self):
        true = self.cases()
        self.assertTrue(true)
        self.assertEqual((true.broken_page, true.lie, true.form), (None, None, None))
        self.assertEqual((len(true), tuple(true)), (4, true.table))
        self.assert_tuples(true.table)
        false = self.cases(bars=())
        self.assertTrue(not false)
        self.assert_tuples((false.lie, false.form))

    def test_against_the_told_trees(self):
        chance = rng(12)
        shelf = Shelf((SUN, SKY, ROSE))
        claims = [("never", "green"), ("never", "red"), ("thick", "across", "blue", 2), ("thick", "down", "white", 2),
                  ("narrow", "across", "yellow", 1), SHUT, ("shut", "down", "yellow", "blue", 1), ("fringe", "red", 1),
                  ("keeps", "red"), ("true",)]
        kept, broken = 0, 0
        for turn in range(120):
            press = Press(shelf, (("sun", 0), ("sky", 1), ("rose", 1))[:chance.randint(1, 3)],
                          chance.choice((((0, 0, 0, 1),), ((1, 0, 0, 0),), ((0, 0, 0, 0),))))
            book = random_book(chance, ("white", "red", "blue"), ("rose", "sky", "sun"), 4)
            claim, bars = chance.choice(claims), chance.choice(((), BARS))
            try:
                cases = Cases(press, book, PALETTE, claim, bars=bars)
            except TooMany:
                continue
            trees = [tuple(told_tree(press, book, PALETTE, bars, lie, form))
                     for lie in press.lies for form in forms(claim, PALETTE)]
            self.assertIs(bool(cases), not any(("open",) in tree for tree in trees))
            if cases:
                kept += 1
                self.assertEqual(cases.table, tuple(trees))
                self.assertIsNone(judge_cases(press, book, PALETTE, claim, listed(trees), bars=listed(bars)))
                for _ in range(10):
                    page = random_picture(chance, PALETTE, 4, 4)
                    if keeps(page, bars):
                        job = book.made(press, page)
                        self.assertTrue(all(holds(claim, page, job.shown(lie)) for lie in press.lies))
            else:
                broken += 1
                self.check_broken(cases, press, book, claim, bars)
        self.assertGreater(min(kept, broken), 20)

    def check_broken(self, cases, press, book, claim, bars):
        page = cases.broken_page
        self.assertTrue(keeps(page, bars))
        picture = book.made(press, page).shown(press.lies[cases.lie])
        self.assertFalse(holds(claim, page, picture))
        self.assertTrue(met(forms(claim, PALETTE)[cases.form], page, picture))
        # No page with fewer inked cells breaks the claim; those within a small box are tried.
        if len(page) in (1, 2):
            cells = list(itertools.product(range(3), range(3)))
            for less in range(len(page)):
                for chosen in itertools.combinations(cells, less):
                    for hues in itertools.product(PALETTE, repeat=less):
                        small = Picture(sorted([(*cell, hue) for cell, hue in zip(chosen, hues)]))
                        job = book.made(press, small)
                        self.assertTrue(all(holds(claim, small, job.shown(lie)) for lie in press.lies))

    def test_the_first_of_the_least_pages(self):
        # Both lies and both forms have open rows; the first ones, by lies, forms and rows, are told.
        press = Press(Shelf((SUN,)), (("sun", 1),), ((0, 0, 0, 1),))
        cases = Cases(press, Book((("red", ("sun",)), ("blue", ("sun",)))), PALETTE, ("never", "yellow"))
        self.assertEqual((cases.broken_page, cases.lie, cases.form), (Picture(((0, 0, "blue"),)), 0, 0))
        cases = Cases(press, Book((("red", ("sun",)),)), ("red",), ("true",))
        self.assertEqual((cases.broken_page, cases.lie, cases.form), (Picture(((0, 0, "red"),)), 0, 1))
        # At the true lie a page with two cells is needed, at the other one a page with one.
        wide = Book((("red", "left", "red", ()), ("red", ("sun",))))
        cases = Cases(press, wide, ("red",), ("keeps", "red"))
        self.assertEqual((len(cases.broken_page), cases.lie), (5, 0))

    def test_a_later_row_with_fewer_inked_cells(self):
        press = Press(Shelf((SUN,)), (("sun", 0),))
        book = Book((("blue", "left", "blue", ("sun",)), ("red", ("sun",))))
        cases = Cases(press, book, PALETTE, ("never", "yellow"))
        self.assertEqual(cases.broken_page, Picture(((0, 0, "red"),)))

    def test_a_later_form_with_fewer_inked_cells(self):
        # Red alone shows two cells of yellow; only beside blue it shows one.
        press = Press(Shelf((SUN,)), (("sun", 0),))
        book = Book((("red", ("sun",)), ("white", "left", "red", ("sun",))))
        cases = Cases(press, book, PALETTE, ("thick", "across", "yellow", 3))
        self.assertEqual((cases.form, cases.broken_page), (1, Picture(((0, 1, "red"),))))
        cases = Cases(press, book, PALETTE, ("thick", "across", "yellow", 2))
        self.assertEqual((cases.form, cases.broken_page), (0, Picture(((0, 1, "red"), (0, 2, "blue")))))

    def test_less_than_one_inked_cell(self):
        press = Press(Shelf((SUN,)), (("sun", 0),))
        cases = Cases(press, Book((("white", "up", "red", ("sun",)),)), ("red",), ("never", "yellow"))
        self.assertEqual(cases.broken_page, Picture(((-1, 0, "red"),)))

    def test_errors(self):
        for thing in (None, (), ("red", "blue"), "blue", ["white"], ("a", "b", "c", "d")):
            for call in (Cases, judge_cases):
                told = () if call is Cases else (None,)
                self.assert_error(BadPalette, {"colours": thing}, call, self.press, self.book, thing, None, *told,
                                  bars=None)
        for thing in (None, ("holes",), ("pieces", "red"), ("blank", 0, 0, 1, 1), ["never"], "true"):
            for call in (Cases, judge_cases):
                told = () if call is Cases else (None,)
                self.assert_error(BadClaim, {"claim": thing}, call, self.press, self.book, PALETTE, thing, *told,
                                  bars=None)

    def test_wrong_bars(self):
        palette = ("blue", "green", "red")
        pairs = (("blue", "green"), ("blue", "red"), ("green", "red"))
        press = Press(Shelf((SUN,)), (("sun", 0),))
        for call, told in ((Cases, ()), (judge_cases, (None,))):
            for thing in (None, "ab", pairs * 2 + (("blue", "red"),), {("blue", "red")}, (None,) * 7, 3):
                self.assert_error(BadBars, {"number": -1}, call, press, Book(), palette, ("true",), *told, bars=thing)
            for thing in (None, "ab", ("red", "blue"), ("blue", "blue"), ("blue", "white"), ("blue",), pairs[0],
                          ("blue", "green", "red"), ("blue", "tan"), ("blue", 1), (True, "blue"), (("blue",), "red")):
                self.assert_error(BadBars, {"number": 1}, call, press, Book(), palette, ("true",), *told,
                                  bars=(pairs[0], thing, None))
        self.assertTrue(Cases(press, Book(), palette, ("never", "red"), bars=listed(pairs)))
        self.assert_error(BadBars, {"number": 3}, Cases, press, Book(), palette, ("true",), bars=pairs * 2)
        self.assert_error(BadBars, {"number": 3}, judge_cases, press, Book(), palette, ("true",), None, bars=pairs * 2)

    def test_lists(self):
        bars, claim = listed(BARS), listed(SHUT)
        cases = Cases(self.press, self.book, list(PALETTE), claim, bars=bars)
        bars[0][0] = "green"
        claim[0] = "never"
        self.assertEqual(cases.table, self.cases().table)

    def test_most_rows(self):
        claim = ("narrow", "across", "yellow", 4)
        shelf = Shelf((SUN, ("moon", "black", ())))
        book = Book((("red", "near", "blue", ("sun",)), ("blue", "near", "red", ("moon",)), ("white", "near", "red", ())))
        self.assert_error(TooMany, {"word": "case"}, Cases, Press(shelf, (("sun", 0), ("moon", 0))), book, PALETTE,
                          claim)
        # Each tree has 16 rows, so that 250 lies bring 4000 rows, and 252 lies bring 4032.
        rules = Book((("a", "left", "a", ("sun",)), ("a", "up", "a", ("sun",)), ("b", "left", "a", ("sun",))))
        cases = Cases(self.wide((2, 2, 2, 2), (1, 0, 2, 2)), rules, ("a", "b"), ("never", "tan"))
        self.assertEqual(([len(tree) for tree in cases], sum([len(tree) for tree in cases])), ([16] * 250, 4000))
        self.assertIsNone(judge_cases(self.wide((2, 2, 2, 2), (1, 0, 2, 2)), rules, ("a", "b"), ("never", "tan"),
                                      cases.table))
        self.assert_error(TooMany, {"word": "case"}, Cases, self.wide((3, 3, 3, 2), (1, 0, 1, 1)), rules, ("a", "b"),
                          ("never", "tan"))

    def test_4001_rows(self):
        rules = Book((("a", "down", "a", ("sky", "sun")), ("white", "left", "a", ("sky",))))
        press = two_press(((2, 2, 0, 2), (2, 0, 2, 0)), (1, 2))
        ground = Ground(press, rules, ("a",), ())
        form = forms(("never", "tan"), ("a",))[0]
        self.assertEqual(sum([len(Tree(ground, lie, form, 4000).rows) for lie in press.lies]), 4001)
        self.assert_error(TooMany, {"word": "case"}, Cases, press, rules, ("a",), ("never", "tan"))

    def wide(self, *boxes):
        return Press(Shelf((SUN,)), (("sun", 1),), boxes)

    def test_one_row_beyond(self):
        rules = Book((("a", "left", "a", ("sun",)), ("a", "up", "a", ("sun",)), ("b", "left", "a", ("sun",))))
        ground = Ground(self.wide((0, 0, 0, 0)), rules, ("a", "b"), ())
        form = forms(("never", "tan"), ("a", "b"))[0]
        self.assertEqual(len(Tree(ground, ((0, 0),), form, 16).rows), 16)
        self.assert_error(TooMany, {"word": "case"}, Tree, ground, ((0, 0),), form, 15)


class JudgeTest(unittest.TestCase, Checks):
    def setUp(self):
        self.press, self.book = two_press(), plain_book()
        self.trees = Cases(self.press, self.book, PALETTE, SHUT, bars=BARS).table

    def judge(self, trees, bars=BARS):
        return judge_cases(self.press, self.book, PALETTE, SHUT, trees, bars=bars)

    def spoilt(self, at, row, place=2):
        """The trees with another row in the tree with this number."""
        tree = self.trees[place]
        return (*self.trees[:place], (*tree[:at], row, *tree[at + 1:]), *self.trees[place + 1:])

    def test_a_right_table(self):
        self.assertIsNone(self.judge(self.trees))
        self.assertIsNone(self.judge(listed(self.trees)))
        self.assertEqual(len(self.trees), 4)

    def test_wrong_as_a_whole(self):
        for thing in (None, (), "abcd", 3, self.trees[:3], self.trees + self.trees[:1], dict(enumerate(self.trees))):
            self.assertEqual(self.judge(thing), -1)

    def test_no_trees(self):
        for place in range(4):
            for thing in (None, (), "ab", 3, ("open",), (("open",),), (None,), ((),), (("shut",),), (("shut", 0, 0),),
                          (("shut", True),), (("ask",),), (("shut", -1),), (("shut", 9),), (("shut", "0"),), {}):
                trees = (*self.trees[:place], thing, *self.trees[place + 1:])
                self.assertEqual(self.judge(trees), place)
                self.assertEqual(self.judge(listed(trees[:place + 1]) + [None] * (3 - place)), place)

    def test_each_way_to_spoil_a_tree(self):
        tree = self.trees[2]
        for at, row in enumerate(tree):
            wrong = [("open",), ("shut", 99), ("shut", -1), ("shut", False), (), None, "shut", ("shut",), ("same", ())]
            if row[0] == "ask":
                _, cell, follows = row
                first = [follow for follow in follows if follow != -1][0]
                wrong += [("ask", cell), ("ask", cell, follows[:-1]), ("ask", cell, (*follows, -1)),
                          ("ask", cell, (True, *follows[1:])), ("ask", cell, "abc"), ("ask", (0, True), follows),
                          ("ask", (0,), follows), ("ask", None, follows), ("ask", (7, 7, 7), follows),
                          ("ask", cell, tuple([99 if follow == first else follow for follow in follows])),
                          ("ask", cell, tuple([at if follow == first else follow for follow in follows])),
                          ("ask", cell, tuple([0 if follow == first else follow for follow in follows])),
                          ("ask", cell, tuple([-2 if follow == first else follow for follow in follows])),
                          ("ask", cell, tuple([-1 if follow == first else follow for follow in follows])),
                          ("ask", cell, tuple([None if follow == first else follow for follow in follows])),
                          ("ask", cell, (follows[0],) * len(follows)), ("ask", cell, follows, ()),
                          ("same", cell, follows), ("open", cell, follows), ("Ask", cell, follows)]
                if at > 0:
                    wrong.append(("ask", tree[0][1], follows))
            for thing in wrong:
                self.assertEqual(self.judge(self.spoilt(at, thing)), 2, (at, thing))

    def test_a_row_that_no_row_tells(self):
        self.assertEqual(self.judge((*self.trees[:3], (*self.trees[3], ("shut", 0)))), 3)
        self.assertEqual(self.judge((self.trees[0][:-1], *self.trees[1:])), 0)

    def test_a_shut_row_that_is_not_decided_or_met(self):
        # The wants are: inked (0, 1), yellow at (0, 0), white at (0, 1), blue at (0, 2).
        self.assertEqual(self.judge(((("shut", 0),), *self.trees[1:])), 0)
        for k in range(4):
            tree = (("ask", (0, 1), (1, 2, 3)), ("shut", k), ("shut", 2), ("shut", 2))
            expected = None if k == 0 else 0
            if k != 0 and want_told(self.press, self.book, self.press.lies[0], ((0, 1, "white"),),
                                    forms(SHUT, PALETTE)[0][k]) == ("unmet",):
                expected = None
            self.assertEqual(self.judge((tree, *self.trees[1:])), expected)

    def test_another_right_tree(self):
        # Other cells can be asked, in another order, and more than are needed.
        tree = (("ask", (9, 9), (1, 5, 9)), *[
            row for base in (1, 5, 9) for row in (
                ("ask", (0, 1), (base + 1, base + 2, base + 3)), ("shut", 0), ("shut", 2), ("shut", 2))])
        self.assertIsNone(self.judge((tree, *self.trees[1:])))
        self.assertEqual(self.judge((tree[:-1] + (("ask", (9, 9), (-1, -1, -1)),), *self.trees[1:])), 0)

    def test_the_order_of_rows_is_free(self):
        tree = (("ask", (0, 1), (3, 1, 2)), ("shut", 2), ("shut", 2), ("shut", 0))
        self.assertIsNone(self.judge((tree, *self.trees[1:])))

    def test_rows_that_are_told_twice_or_tell_themselves(self):
        for tree in ((("ask", (0, 1), (0, 1, 2)), ("shut", 2), ("shut", 2)),
                     (("ask", (0, 1), (2, 1, 1)), ("shut", 2), ("shut", 0)),
                     (("ask", (0, 1), (1, 2, 2)), ("shut", 0), ("shut", 2))):
            self.assertEqual(self.judge((tree, *self.trees[1:])), 0)

    def test_bars_beside_told_cells(self):
        # (0, 0) and (0, 1) are asked; where the one is blue, the other one cannot be red.
        right = (("ask", (0, 0), (1, 2, 3)),
                 ("ask", (0, 1), (4, 5, 6)), ("ask", (0, 1), (7, 8, -1)), ("ask", (0, 1), (9, -1, 10)),
                 ("shut", 0), ("shut", 2), ("shut", 2), ("shut", 0), ("shut", 2), ("shut", 0), ("shut", 2))
        self.assertIsNone(self.judge((right, *self.trees[1:])))
        self.assertEqual(self.judge((right, *self.trees[1:]), bars=()), 0)
        freed = (*right[:2], ("ask", (0, 1), (7, 8, 11)), *right[3:], ("shut", 2))
        self.assertEqual(self.judge((freed, *self.trees[1:])), 0)

    def test_a_long_way(self):
        # 98 far cells are asked one behind the other; each colour that ends the way asks what shuts it.
        tree = []

        def end():
            at = len(tree)
            tree.extend([("ask", (0, 1), (at + 1, at + 2, at + 3)), ("shut", 0), ("shut", 2), ("shut", 2)])
            return at

        for k in range(98):
            at = len(tree)
            tree.append(None)
            tree[at] = ("ask", (40, 2 * k), (at + 9, end(), end()))
        end()
        self.assertIsNone(self.judge((tuple(tree), *self.trees[1:])))
        self.assertEqual(self.judge((tuple(tree[:-1]) + (("shut", 0),), *self.trees[1:])), 0)

    def test_too_many_is_not_raised(self):
        press = Press(Shelf((SUN, ("moon", "black", ()))), (("sun", 0), ("moon", 0)))
        book = Book((("red", "near", "blue", ("sun",)), ("blue", "near", "red", ("moon",))))
        self.assertEqual(judge_cases(press, book, PALETTE, ("narrow", "across", "yellow", 4), ((),)), 0)
        self.assertEqual(judge_cases(press, book, PALETTE, ("narrow", "across", "yellow", 4), ()), -1)


class PageBarsTest(unittest.TestCase, Checks):
    def test_example(self):
        press, book = two_press(), plain_book()
        told = PageBars(press, book, PALETTE, SHUT, BARS)
        self.assertTrue(told)
        self.assertEqual(told.table, (((), Picture(((0, 0, "red"), (0, 1, "blue")))), ((0,), None)))
        self.assertEqual((len(told), list(told)), (1, [(0,)]))
        self.assertIs((0,) in told, True)
        self.assertIs([0] in told, True)
        for thing in ODD + ((False,), (0, 0), (1,), (-1,), (0.0,), ("0",), 0):
            self.assertIs(thing in told, False)

    def test_no_lot_serves(self):
        told = PageBars(two_press(), plain_book(), PALETTE, ("never", "yellow"), BARS)
        self.assertFalse(told)
        self.assertEqual((len(told), list(told), len(told.table)), (0, [], 2))

    def test_all_serve(self):
        told = PageBars(two_press(), plain_book(), PALETTE, ("never", "tan"), BARS)
        self.assertEqual((told.table, list(told)), ((((), None), ((0,), None)), [()]))
        self.assertIs(() in told, True)
        self.assertIs((0,) in told, True)
        self.assertIs((0, 1) in told, False)

    def test_against_cases(self):
        palette = ("blue", "green", "red")
        pairs = (("green", "red"), ("blue", "green"), ("blue", "red"))
        press = Press(Shelf((SUN, SKY)), (("sun", 0), ("sky", 0)))
        chance = rng(2)
        for turn in range(15):
            book = random_book(chance, ("white", "blue", "green", "red"), ("sky", "sun"), 5)
            claim = chance.choice((("never", "green"), ("never", "blue"), ("narrow", "across", "blue", 1)))
            told = PageBars(press, book, palette, claim, listed(pairs))
            rows = []
            for lot in lots(3):
                cases = Cases(press, book, palette, claim, bars=[pairs[number] for number in lot])
                rows.append((lot, cases.broken_page))
            self.assertEqual([lot for lot, _ in told.table], lots(3))
            self.assertEqual(told.table, tuple(rows))
            serving = [lot for lot, page in rows if page is None]
            least = [lot for lot in serving if not any(set(part) < set(lot) for part in serving)]
            self.assertEqual((list(told), bool(told)), (least, bool(serving)))
            for lot in lots(4):
                self.assertIs(lot in told, lot in serving)

    def test_errors(self):
        press, book = two_press(), plain_book()
        self.assert_error(BadPalette, {"colours": ["red", "blue"]}, PageBars, press, book, ["red", "blue"], None, None)
        self.assert_error(BadClaim, {"claim": ["holes"]}, PageBars, press, book, PALETTE, ["holes"], None)
        for thing in (None, 3, "ab", (None,) * 5, BARS * 5):
            self.assert_error(BadBars, {"number": -1}, PageBars, press, book, PALETTE, SHUT, thing)
        self.assert_error(BadBars, {"number": 1}, PageBars, press, book, PALETTE, SHUT, BARS * 4)
        self.assert_error(BadBars, {"number": 0}, PageBars, press, book, PALETTE, SHUT, (("red", "blue"), None))
        shelf = Shelf((SUN, ("moon", "black", ())))
        many = Book((("red", "near", "blue", ("sun",)), ("blue", "near", "red", ("moon",)), ("white", "near", "red", ())))
        self.assert_error(TooMany, {"word": "case"}, PageBars, Press(shelf, (("sun", 0), ("moon", 0))), many, PALETTE,
                          ("narrow", "across", "yellow", 4), BARS)

    def test_lists_are_kept(self):
        pairs = listed(BARS)
        told = PageBars(two_press(), plain_book(), PALETTE, listed(SHUT), pairs)
        pairs.clear()
        self.assertIs((0,) in told, True)
        self.assert_tuples(list(told)[0])


if __name__ == "__main__":
    unittest.main()
