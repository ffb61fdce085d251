import itertools
import unittest

from strayplates.asking import read_told
from strayplates.book import Book
from strayplates.bookpair import BookPair, judge_books
from strayplates.errors import BadPalette
from strayplates.picture import Picture
from strayplates.reach import Reach
from strayplates.rulework import idle_rules, lean_book, least_pages, needless_rules
from strayplates.words import neighbours
from tests.tools import Checks, listed, plain_book, random_book, random_picture, rng

PALETTE = ("blue", "red")
INKS = ("rose", "sky", "sun")
AROUND = ((0, 0), *neighbours((0, 0)))
NO_PALETTES = (None, (), ("red", "blue"), "blue", ["white"], ("a", "b", "c", "d"), ("Red",), (1,), ("red", "red"), 3)


def told_tree(first, second, palette, told=(), rows=None):
    """The tree, row by row as [26] tells it, and what is told at each row."""
    rows = [] if rows is None else rows
    answers = [read_told(book, told, (0, 0)) for book in (first, second)]
    number = len(rows)
    rows.append(None)
    if "needs" in [answer[0] for answer in answers]:
        cell = [answer[1] for answer in answers if answer[0] == "needs"][0]
        follows = []
        for hue in ("white", *palette):
            follows.append(len(rows))
            told_tree(first, second, palette, tuple(sorted([*told, (*cell, hue)])), rows)
        rows[number] = (told, ("ask", cell, tuple(follows)))
    else:
        inks = [answer[1] for answer in answers]
        rows[number] = (told, ("same", inks[0]) if inks[0] == inks[1] else ("apart", *inks))
    return rows


def all_pages(palette):
    """All pages that are inked at (0, 0) and its neighbours alone, those with fewer inked cells first."""
    pages = [Picture(sorted([(*cell, hue) for cell, hue in zip(AROUND, hues) if hue != "white"]))
             for hues in itertools.product(("white", *palette), repeat=5)]
    return sorted(pages, key=len)


PAGES = {palette: all_pages(palette) for palette in (PALETTE, ("red",))}


def same_everywhere(first, second, palette):
    return all(first.inks_at(page, (0, 0)) == second.inks_at(page, (0, 0)) for page in PAGES[palette])


def spoilt_book(chance, book):
    """A book that is likely to be alike: with a rule more, or with one that is left out or moved."""
    rules = list(book.rules)
    if rules and chance.random() < 0.6:
        rule = rules.pop(chance.randrange(len(rules)))
        if chance.random() < 0.6:
            rules.insert(chance.randint(0, len(rules)), rule)
    else:
        rules.append(("red", ("sun",)))
    return Book(rules)


class BookPairTest(unittest.TestCase, Checks):
    def test_alike(self):
        book = plain_book()
        pair = BookPair(book, book + Book((("red", "up", "blue", ("sky",)),)), PALETTE)
        self.assertTrue(pair)
        self.assertEqual(pair.table, (("ask", (0, 0), (1, 2, 3)), ("same", ()), ("same", ("sky",)), ("same", ("sun",))))
        self.assertEqual((pair.parting_page, pair.inks), (None, None))
        self.assertEqual((len(pair), tuple(pair)), (4, pair.table))
        self.assert_tuples(pair.table)
        self.assertTrue(BookPair(Book(), Book((("tan", ("sun",)),)), ["red"]))

    def test_apart(self):
        first, second = plain_book(), Book((("red", "left", "blue", ()), ("red", ("sun",)), ("blue", ("sky",))))
        pair = BookPair(first, second, PALETTE)
        self.assertFalse(pair)
        self.assertEqual(pair.parting_page, Picture(((0, -1, "blue"), (0, 0, "red"))))
        self.assertEqual(pair.inks, (("sun",), ()))
        self.assertEqual((pair.table, len(pair), list(pair)), (None, 0, []))
        self.assertEqual(BookPair(second, first, PALETTE).inks, ((), ("sun",)))
        self.assertTrue(BookPair(first, second, ("red",)))

    def test_the_first_of_the_least_pages(self):
        # A white cell below blue is told ahead of a red one, and has as many inked cells.
        pair = BookPair(Book((("white", "down", "blue", ("sun",)), ("red", ("sky",)))), Book(), PALETTE)
        self.assertEqual(pair.parting_page, Picture(((1, 0, "blue"),)))
        pair = BookPair(Book((("blue", "down", "blue", ("sun",)), ("red", ("sky",)))), Book(), PALETTE)
        self.assertEqual((pair.parting_page, pair.inks), (Picture(((0, 0, "red"),)), (("sky",), ())))

    def test_the_whole_tree(self):
        near = Book((("white", "near", "red", ("sun",)),))
        sun = ("same", ("sun",))
        self.assertEqual(BookPair(near, near + near, ("red",)).table, (
            ("ask", (0, 0), (1, 10)), ("ask", (-1, 0), (2, 9)), ("ask", (0, -1), (3, 8)), ("ask", (0, 1), (4, 7)),
            ("ask", (1, 0), (5, 6)), ("same", ()), sun, sun, sun, sun, ("same", ())))

    def test_errors(self):
        for thing in NO_PALETTES:
            self.assert_error(BadPalette, {"colours": thing}, BookPair, Book(), Book(), thing)
            self.assert_error(BadPalette, {"colours": thing}, judge_books, Book(), Book(), thing, None)

    def test_against_all_pages(self):
        chance = rng(131)
        alike = apart = 0
        for _ in range(200):
            palette = chance.choice((PALETTE, ("red",)))
            first = random_book(chance, ("white", *PALETTE), INKS, 4)
            second = spoilt_book(chance, first)
            rows = told_tree(first, second, palette)
            pair = BookPair(first, second, listed(palette))
            self.assertIs(bool(pair), same_everywhere(first, second, palette))
            if pair:
                alike += 1
                self.assertEqual(pair.table, tuple([row for _, row in rows]))
                self.assertIsNone(judge_books(first, second, palette, listed(pair.table)))
                for _ in range(5):
                    page = random_picture(chance, palette, 4, 4)
                    self.assertTrue(all(first.inks_at(page, cell) == second.inks_at(page, cell)
                                        for cell in itertools.product(range(-1, 5), range(-1, 5))))
            else:
                apart += 1
                sizes = [(len([hue for _, _, hue in told if hue != "white"]), number)
                         for number, (told, row) in enumerate(rows) if row[0] == "apart"]
                told, row = rows[min(sizes)[1]]
                self.assertEqual(pair.parting_page, Picture([cell for cell in told if cell[2] != "white"]))
                self.assertEqual(pair.inks, row[1:])
                self.assertEqual(pair.inks, (first.inks_at(pair.parting_page, (0, 0)), second.inks_at(pair.parting_page, (0, 0))))
                fewer = [page for page in PAGES[palette] if len(page) < len(pair.parting_page)]
                self.assertTrue(all(first.inks_at(page, (0, 0)) == second.inks_at(page, (0, 0)) for page in fewer))
        self.assertGreater(min(alike, apart), 40)


class JudgeBooksTest(unittest.TestCase, Checks):
    def setUp(self):
        self.first = Book((("blue", "left", "red", ("sun",)), ("red", ("sky",))))
        self.second = Book((("blue", "left", "red", ("sun",)), ("red", "left", "red", ("sky",)), ("red", ("sky",))))
        self.table = BookPair(self.first, self.second, PALETTE).table

    def judge(self, rows):
        return judge_books(self.first, self.second, PALETTE, rows)

    def spoilt(self, at, row):
        return (*self.table[:at], row, *self.table[at + 1:])

    def test_a_right_table(self):
        self.assertEqual(self.table, (
            ("ask", (0, 0), (1, 2, 6)), ("same", ()),
            ("ask", (0, -1), (3, 4, 5)), ("same", ()), ("same", ()), ("same", ("sun",)),
            ("ask", (0, -1), (7, 8, 9)), ("same", ("sky",)), ("same", ("sky",)), ("same", ("sky",))))
        self.assertIsNone(self.judge(self.table))
        self.assertIsNone(self.judge(listed(self.table)))

    def test_wrong_as_a_whole(self):
        for thing in (None, 3, "ab", {}, (), self.table + (("same", ()),), self.table + (None,), self.table[:2],
                      dict(enumerate(self.table))):
            expected = -1 if thing != self.table[:2] else 0
            self.assertEqual(self.judge(thing), expected)
        for thing in (None, ("same", ()), "same", (), ("open",), ("shut", 0)):
            self.assertEqual(self.judge((thing,)), 0)

    def test_rows_that_are_not_told_just_once(self):
        # Row 3 is told twice, or by a row behind it, or by itself; in each case another one is told by none.
        for at, follows in ((2, (4, 4, 5)), (2, (3, 3, 5)), (2, (3, 4, 4)), (2, (2, 4, 5)), (6, (3, 8, 9)), (6, (7, 8, 6)),
                            (6, (7, 8, 2)), (0, (1, 2, 2)), (0, (6, 2, 6)), (2, (3, 4, 6)), (6, (7, 8)), (2, (3, 4)),
                            (2, (3, 4, -1)), (2, (3, 4, 99)), (2, (3, 4, 0))):
            row = (*self.table[at][:2], follows)
            self.assertEqual(self.judge(self.spoilt(at, row)), -1, (at, follows))
        # Told by a row behind it alone: row 5 is told by row 6, and not by row 2 any more.
        rows = list(self.table)
        rows[2], rows[6] = ("ask", (0, -1), (3, 4, 9)), ("ask", (0, -1), (7, 8, 5))
        self.assertEqual(self.judge(rows), -1)

    def test_numbers_that_are_no_later_rows(self):
        book, leaves = plain_book(), (("same", ()), ("same", ("sky",)))
        for number in (-2, -1, 0, 3, 4, 10 ** 39):
            rows = (("ask", (0, 0), (1, 2, number)), *leaves)
            self.assertEqual(judge_books(book, book, PALETTE, rows), 0)
        # A row that tells only itself is not told by one ahead of it.
        for follows in ((3, 4, 5), (4, 5, 3)):
            rows = (("ask", (0, 0), (1, 2, 99)), *leaves, ("ask", (1, 1), follows), ("same", ()), ("same", ()))
            self.assertEqual(judge_books(book, book, PALETTE, rows), -1)
        self.assertEqual(judge_books(book, book, PALETTE, (("same", ()), ("same", ()))), -1)
        self.assertEqual(judge_books(book, book, PALETTE, (("ask", (0, 0), (2, 3, 4)), *[("same", ())] * 4)), -1)

    def test_rows_that_ask_without_the_form(self):
        for at in (2, 6):
            _, cell, follows = self.table[at]
            for row in (("ask", cell), ("ask", cell, None), ("ask", cell, "abc"), ("ask", cell, (*follows[:2], True)),
                        ("ask", (0, True), follows), ("ask", None, follows), ("ask", (0,), follows), ("Ask", cell, follows),
                        ("ask", cell, follows, ()), (*self.table[at][:2], (*follows[:2], None)), None, "ask", ()):
                # They tell nothing, so that some rows are told by none.
                self.assertEqual(self.judge(self.spoilt(at, row)), -1)

    def test_rows_that_ask_what_is_wrong(self):
        for at in (2, 6):
            _, cell, follows = self.table[at]
            for row in (("ask", (0, 0), follows), ("ask", cell, (*follows, -1)), ("ask", cell, (*follows, 0)),
                        ("ask", cell, (-1, *follows)), ("ask", cell, (*follows, 99)), ("ask", (7, 7), follows),
                        ("ask", (0, 1), follows), ("ask", cell, follows[::-1])):
                told = self.judge(self.spoilt(at, row))
                if at == 2:
                    expected = 5 if row[1] in ((7, 7), (0, 1)) else 3 if row[2] == follows[::-1] else 2
                else:
                    expected = 7 if row[1] in ((7, 7), (0, 1)) else None if row[2] == follows[::-1] else 6
                if row[1] in ((7, 7), (0, 1)):
                    # The left cell is not told then, so that the leaves cannot be read.
                    expected = follows[0]
                self.assertEqual(told, expected, (at, row))

    def test_leaves(self):
        for at, row in enumerate(self.table):
            if row[0] == "same":
                for thing in (None, (), "same", ("same",), ("same", None), ("same", ("rose",)), ("same", ("sun", "sun")),
                              ("same", "sun"), ("apart", (), ("sun",)), ("same", row[1], ()), ("Same", row[1]), ("open",),
                              ("shut", 0), ("same", True), ("apart", row[1]), ["same", [["sun"]]]):
                    self.assertEqual(self.judge(self.spoilt(at, thing)), at, (at, thing))

    def test_another_right_tree(self):
        # A far cell is asked first, and more than is needed.
        base = len(self.table)
        moved = [tuple([("ask", row[1], tuple([follow + 1 + k * base for follow in row[2]])) if row[0] == "ask" else row
                        for row in self.table]) for k in range(3)]
        tree = (("ask", (9, -9), (1, 1 + base, 1 + 2 * base)), *moved[0], *moved[1], *moved[2])
        self.assertIsNone(self.judge(tree))
        # The rows that come of a row can stand anywhere behind it.
        self.assertIsNone(judge_books(plain_book(), plain_book(), PALETTE, (
            ("ask", (0, 0), (3, 1, 2)), ("same", ("sky",)), ("same", ("sun",)), ("same", ()))))

    def test_books_that_are_apart(self):
        first, second = plain_book(), Book((("red", ("sun",)),))
        rows = (("ask", (0, 0), (1, 2, 3)), ("same", ()), ("same", ("sky",)), ("same", ("sun",)))
        self.assertIsNone(judge_books(first, first, PALETTE, rows))
        self.assertEqual(judge_books(first, second, PALETTE, rows), 2)
        self.assertEqual(judge_books(second, first, PALETTE, rows), 2)
        self.assertEqual(judge_books(first, second, ("red",), rows), -1 if len(rows) == 3 else 0)


class RuleWorkTest(unittest.TestCase, Checks):
    def test_least_pages(self):
        book = Book((("red", "left", "blue", ("sun",)), ("red", ()), ("red", "up", "red", ()), ("white", "hemmed", "blue", ())))
        self.assertEqual(least_pages(book, PALETTE), (
            Picture(((0, -1, "blue"), (0, 0, "red"))), Picture(((0, 0, "red"),)), None,
            Picture([(*cell, "blue") for cell in sorted(AROUND[1:])])))
        self.assertEqual(idle_rules(book, PALETTE), (2,))
        self.assertEqual(idle_rules(book, ["red"]), (0, 2, 3))
        self.assertEqual(needless_rules(book, PALETTE), (1, 2, 3))
        self.assertEqual(lean_book(book, PALETTE).rules, book.rules[:1])
        self.assertEqual((least_pages(Book(), PALETTE), idle_rules(Book(), PALETTE)), ((), ()))
        self.assertEqual((needless_rules(Book(), PALETTE), lean_book(Book(), PALETTE)), ((), Book()))

    def test_the_last_needless_rule_is_left_out_first(self):
        # Without the second rule the third one is needed, and the other way round.
        book = Book((("blue", ()), ("red", ("sun",)), ("red", ("sun",)), ("red", "near", "red", ("sun",))))
        self.assertEqual(needless_rules(book, PALETTE), (0, 1, 2, 3))
        self.assertEqual(lean_book(book, PALETTE), Book((("red", ("sun",)),)))
        # The first rule prints what the others do, where red is beside red.
        book = Book((("red", "near", "red", ("sun",)), ("red", "left", "red", ("sun",))))
        self.assertEqual(needless_rules(book, PALETTE), (1,))
        turned = Book((book[1], book[0]))
        self.assertEqual((needless_rules(turned, PALETTE), lean_book(turned, PALETTE)), ((0,), Book((book[0],))))

    def test_errors(self):
        for thing in NO_PALETTES:
            for call in (least_pages, idle_rules, needless_rules, lean_book):
                self.assert_error(BadPalette, {"colours": thing}, call, Book(), thing)

    def test_against_all_pages(self):
        chance = rng(137)
        idle = needless = 0
        for _ in range(150):
            palette = chance.choice((PALETTE, ("red",)))
            book = random_book(chance, ("white", *PALETTE), INKS, 6)
            pages = least_pages(book, palette)
            rows = told_tree(book, book, palette)
            for number in range(len(book)):
                counting = [page for page in PAGES[palette] if book.counting(page, (0, 0)) == number]
                if not counting:
                    self.assertIsNone(pages[number])
                    continue
                self.assertEqual(len(pages[number]), len(counting[0]))
                told = [Picture([cell for cell in here if cell[2] != "white"]) for here, row in rows if row[0] == "same"]
                told = [page for page in told if book.counting(page, (0, 0)) == number]
                self.assertEqual(pages[number], min(told, key=len))
            idle_ones = idle_rules(book, listed(palette))
            self.assertEqual(idle_ones, tuple([number for number, page in enumerate(pages) if page is None]))
            needless_ones = tuple([number for number in range(len(book)) if same_everywhere(book, book.but(number), palette)])
            self.assertEqual(needless_rules(book, palette), needless_ones)
            self.assertLessEqual(set(idle_ones), set(needless_ones))
            lean = book
            while needless_rules(lean, palette):
                lean = lean.but(needless_rules(lean, palette)[-1])
            self.assertEqual(lean_book(book, palette), lean)
            self.assertTrue(same_everywhere(book, lean, palette))
            idle += bool(idle_ones)
            needless += len(needless_ones) > len(idle_ones)
        self.assertGreater(min(idle, needless), 20)


class ReachTest(unittest.TestCase, Checks):
    def test_a_small_book(self):
        reach = Reach(Book((("blue", "left", "red", ("sky",)),)), "sky", PALETTE)
        self.assertEqual([cell for cell, _ in reach.table], [(0, 0), (-1, 0), (0, -1), (0, 1), (1, 0)])
        self.assertEqual([cell for cell, pages in reach if pages], [(0, 0), (0, 1)])
        self.assertEqual((len(reach), tuple(reach)), (5, reach.table))
        sizes = [len(one) + len(other) for _, pages in reach if pages for one, other in [pages]]
        self.assertEqual(sizes, [3, 3])
        self.assertIs((0, 1) in reach, True)
        self.assertIs([0, 0] in reach, True)
        for thing in (None, (), 0, "ab", (0, -1), (1, 0), (0, 2), (False, 1), (0, True), (0, 1, 0), [[0, 0]], {}, {(0, 1)}, (0.0, 1)):
            self.assertIs(thing in reach, False)

    def test_an_ink_that_is_not_printed(self):
        reach = Reach(plain_book(), "rose", PALETTE)
        self.assertEqual(reach.table, tuple([(cell, None) for cell in AROUND]))
        self.assertIs((0, 0) in reach, False)

    def test_errors(self):
        for thing in NO_PALETTES:
            self.assert_error(BadPalette, {"colours": thing}, Reach, Book(), "sun", thing)

    def test_against_all_pages(self):
        chance = rng(139)
        reached = kept = 0
        for _ in range(60):
            palette = chance.choice((PALETTE, ("red",)))
            book = random_book(chance, ("white", *PALETTE), INKS[1:], 4, 1)
            reach = Reach(book, "sun", listed(palette))
            for cell, pages in reach.table:
                # Pages inked around the cell, grouped by all but the colour of (0, 0).
                groups = {}
                for page in PAGES[palette]:
                    moved = page.moved(*cell)
                    rest = tuple([told for told in moved if told[:2] != (0, 0)])
                    groups.setdefault(rest, []).append((len(moved), "sun" in book.inks_at(moved, cell)))
                sizes = [one + other for told in groups.values() for (one, here), (other, there) in
                         itertools.combinations(told, 2) if here != there]
                self.assertIs(pages is None, not sizes)
                self.assertIs(cell in reach, pages is not None)
                if pages is None:
                    kept += 1
                    continue
                reached += 1
                one, other = pages
                self.assertEqual(len(one) + len(other), min(sizes))
                self.assertNotEqual(one[(0, 0)], other[(0, 0)])
                self.assertEqual([told for told in one if told[:2] != (0, 0)], [told for told in other if told[:2] != (0, 0)])
                self.assertNotEqual("sun" in book.inks_at(one, cell), "sun" in book.inks_at(other, cell))
                self.assertLessEqual(set(one.hues + other.hues), set(palette))
        self.assertGreater(min(reached, kept), 50)


if __name__ == "__main__":
    unittest.main()
