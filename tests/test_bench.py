import unittest

from strayplates.bench import Bench, restart, tried
from strayplates.book import Book
from strayplates.errors import BadChange, NoStep
from strayplates.picture import Picture
from strayplates.press import Press
from strayplates.shelf import Shelf
from tests.tools import ODD, ROSE, SKY, SUN, Checks, listed, plain_book, random_book, random_picture, rng, two_press

PAGE = Picture(((0, 0, "red"), (0, 1, "blue")))
HUES = ("red", "blue", "white")


def differing(one, other):
    """What differs between the plates of two jobs on one press, as [33] tells it."""
    found = []
    for number, (ahead, behind) in enumerate(zip(one.plates, other.plates)):
        found += [(number, *cell, cell in behind) for cell in set(ahead.cells) ^ set(behind.cells)]
    return tuple(sorted(found))


def random_changes(chance, many=4):
    return [(chance.randint(-1, 3), chance.randint(-1, 3), chance.choice(HUES)) for _ in range(chance.randint(0, many))]


class Stop(Exception):
    pass


class BenchTest(unittest.TestCase, Checks):
    def setUp(self):
        self.press, self.book = two_press(), plain_book()
        self.bench = Bench(self.press, self.book, PAGE)

    def state(self, bench):
        return bench.page.cells, bench.history, tuple([plate.cells for plate in bench.result.plates])

    def test_a_new_bench(self):
        bench = self.bench
        self.assertEqual((bench.press, bench.book, bench.page, bench.history), (self.press, self.book, PAGE, ()))
        self.assertEqual(bench.result, self.book.made(self.press, PAGE))

    def test_recolour_and_back(self):
        bench = self.bench
        self.assertEqual(bench.recolour((0, 1, "red"), [0, 2, "blue"]),
                         ((0, 0, 1, True), (1, 0, 1, False), (1, 0, 2, True)))
        self.assertEqual(bench.history, ((0, 1, "blue", "red"), (0, 2, "white", "blue")))
        self.assertEqual(bench.page, Picture(((0, 0, "red"), (0, 1, "red"), (0, 2, "blue"))))
        self.assertEqual(bench.result, self.book.made(self.press, bench.page))
        self.assertEqual(bench.back(), ((1, 0, 2, False),))
        self.assertEqual(bench.history, ((0, 1, "blue", "red"),))
        self.assertEqual(bench.back(1), ((0, 0, 1, False), (1, 0, 1, True)))
        self.assertEqual((bench.page, bench.history, bench.back(0)), (PAGE, (), ()))
        self.assert_tuples((bench.recolour([5, 5, "red"]), bench.history))

    def test_what_differs_behind_all_steps(self):
        bench = self.bench
        self.assertEqual(bench.recolour((0, 0, "blue"), (0, 0, "white"), (0, 0, "red")), ())
        self.assertEqual(bench.history, ((0, 0, "red", "blue"), (0, 0, "blue", "white"), (0, 0, "white", "red")))
        self.assertEqual(bench.back(2), ((0, 0, 0, False), (1, 0, 0, True)))
        self.assertEqual(bench.page[(0, 0)], "blue")
        self.assertEqual(bench.recolour((0, 0, "blue")), ())
        self.assertEqual(bench.history[-1], (0, 0, "blue", "blue"))
        self.assertEqual((bench.recolour(), len(bench.history)), ((), 2))
        self.assertEqual(bench.back(many=2), ((0, 0, 0, True), (1, 0, 0, False)))
        self.assertEqual(bench.page, PAGE)

    def test_neighbours_are_printed_anew(self):
        book = Book((("white", "near", "red", ("sun",)), ("red", ("sky",))))
        bench = Bench(self.press, book, Picture())
        self.assertEqual(bench.recolour((0, 0, "red")), (
            (0, -1, 0, True), (0, 0, -1, True), (0, 0, 1, True), (0, 1, 0, True), (1, 0, 0, True)))
        self.assertEqual(bench.recolour((0, 1, "tan")), ((0, 0, 1, False),))
        self.assertEqual(bench.recolour((0, 1, "red"), (0, 0, "white")), (
            (0, -1, 0, False), (0, -1, 1, True), (0, 0, -1, False), (0, 0, 0, True), (0, 0, 2, True), (0, 1, 0, False),
            (0, 1, 1, True), (1, 0, 0, False), (1, 0, 1, True)))

    def test_wrong_changes(self):
        self.bench.recolour((3, 3, "red"))
        kept = self.state(self.bench)
        for thing in ODD + ((0, 0), (0, 0, "Red"), (0, 0, 3), (51, 0, "red"), (0, -51, "red"), (-51, 0, "red"), (0, 51, "red"), (True, 0, "red"), (0, False, "red"),
                            (0, 0, "red", 0), ("0", 0, "red"), (0, 0, ""), (0, 0, None)):
            self.assert_error(BadChange, {"number": 0}, self.bench.recolour, thing)
            self.assert_error(BadChange, {"number": 1}, self.bench.recolour, (0, 0, "blue"), thing, None)
            self.assert_error(BadChange, {"number": 2}, self.bench.recolour, (0, 0, "blue"), [1, 1, "red"], thing)
            self.assertEqual(self.state(self.bench), kept)
        self.assertEqual(len(self.bench.recolour((50, -50, "red"), (-50, 50, "blue"))), 2)

    def test_wrong_numbers_of_steps(self):
        self.bench.recolour((0, 0, "blue"), (0, 0, "red"))
        kept = self.state(self.bench)
        for thing in ODD + (3, -2, 10 ** 39):
            if type(thing) is not int or not 0 <= thing <= 2:
                self.assert_error(NoStep, {"many": thing}, self.bench.back, thing)
        self.assertEqual(self.state(self.bench), kept)
        self.assertEqual(self.bench.back(2), ())
        self.assert_error(NoStep, {"many": 1}, self.bench.back)
        self.assert_error(NoStep, {"many": 1}, Bench(self.press, self.book, PAGE).back, 1)

    def test_the_page_set_anew(self):
        bench = self.bench
        bench.recolour((0, 0, "blue"))
        bench.page = Picture(((2, 2, "red"),))
        self.assertEqual((bench.page, bench.history), (Picture(((2, 2, "red"),)), ()))
        self.assertEqual(bench.result, self.book.made(self.press, bench.page))
        self.assert_error(NoStep, {"many": 1}, bench.back)
        self.assertEqual(restart(bench, PAGE), self.book.made(self.press, PAGE))
        self.assertEqual((bench.page, bench.history), (PAGE, ()))

    def test_changes_that_are_lists(self):
        change = [0, 0, "blue"]
        self.bench.recolour(change)
        change[2] = "white"
        self.assertEqual((self.bench.page[(0, 0)], self.bench.history), ("blue", ((0, 0, "red", "blue"),)))

    def test_what_it_returns_stays(self):
        page, result, history = self.bench.page, self.bench.result, self.bench.history
        self.bench.recolour((0, 0, "white"))
        self.assertEqual((page, result, history), (PAGE, self.book.made(self.press, PAGE), ()))
        page = self.bench.page
        with self.bench:
            self.bench.recolour((0, 0, "red"))
        self.assertEqual(page[(0, 0)], "white")

    def test_against_whole_books(self):
        chance = rng(163)
        shelf = Shelf((SUN, SKY, ROSE))
        changed = 0
        for _ in range(60):
            press = Press(shelf, [(name, 0) for name in chance.sample(shelf.names, chance.randint(1, 3))])
            book = random_book(chance, HUES, ("rose", "sky", "sun"), 5)
            page = random_picture(chance, ("red", "blue"), 3, 3)
            bench = Bench(press, book, page)
            history, pages = [], [page]
            for _ in range(12):
                elder = book.made(press, bench.page)
                if chance.random() < 0.6:
                    changes = random_changes(chance)
                    told = bench.recolour(*listed(changes))
                    for row, column, hue in changes:
                        cells = {cell[:2]: cell[2] for cell in pages[-1]}
                        history.append((row, column, cells.get((row, column), "white"), hue))
                        cells[(row, column)] = hue
                        pages.append(Picture(sorted([(*cell, hue) for cell, hue in cells.items() if hue != "white"])))
                else:
                    many = chance.randint(0, len(history))
                    told = bench.back(many)
                    history, pages = history[:len(history) - many], pages[:len(pages) - many]
                self.assertEqual((bench.page, bench.history), (pages[-1], tuple(history)))
                self.assertEqual(bench.result, book.made(press, pages[-1]))
                self.assertEqual(told, differing(elder, bench.result))
                changed += bool(told)
        self.assertGreater(changed, 200)


class BlockTest(unittest.TestCase, Checks):
    def setUp(self):
        self.bench = Bench(two_press(), plain_book(), PAGE)
        self.bench.recolour((1, 1, "red"))

    def state(self, bench=None):
        bench = bench or self.bench
        return bench.page.cells, bench.history, tuple([plate.cells for plate in bench.result.plates])

    def test_it_gives_itself(self):
        with self.bench as bench:
            self.assertIs(bench, self.bench)

    def test_a_block(self):
        kept = self.state()
        with self.bench:
            self.assertEqual(self.state(), kept)
            self.bench.recolour((0, 0, "blue"), (7, 7, "red"))
            self.assertEqual(len(self.bench.history), 3)
        self.assertEqual(self.state(), kept)
        self.assertEqual(self.bench.back(), ((0, 1, 1, False),))

    def test_steps_from_ahead_of_the_block_are_taken_back(self):
        kept = self.state()
        with self.bench:
            self.bench.back()
            self.assertEqual((self.bench.page, self.bench.history), (PAGE, ()))
            self.bench.recolour((9, 9, "blue"))
        self.assertEqual(self.state(), kept)

    def test_the_page_set_anew_in_a_block(self):
        kept = self.state()
        with self.bench:
            self.bench.page = Picture()
            self.assertEqual(self.state(), ((), (), ((), ())))
        self.assertEqual(self.state(), kept)
        with self.bench:
            restart(self.bench, Picture(((5, 5, "blue"),)))
            self.bench.recolour((5, 5, "red"))
        self.assertEqual(self.state(), kept)

    def test_blocks_within_one_another(self):
        states = [self.state()]
        with self.bench:
            self.bench.recolour((0, 0, "white"))
            states.append(self.state())
            with self.bench:
                self.bench.page = Picture(((3, 3, "red"),))
                states.append(self.state())
                with self.bench:
                    self.bench.recolour((3, 3, "blue"))
                self.assertEqual(self.state(), states[2])
                with self.bench:
                    pass
                self.assertEqual(self.state(), states[2])
            self.assertEqual(self.state(), states[1])
            self.bench.back()
        self.assertEqual(self.state(), states[0])

    def test_blocks_that_an_error_leaves(self):
        kept = self.state()
        with self.assertRaises(Stop):
            with self.bench:
                self.bench.recolour((0, 0, "white"))
                with self.bench:
                    self.bench.page = Picture()
                    raise Stop
        self.assertEqual(self.state(), kept)
        with self.assertRaises(BadChange):
            with self.bench:
                self.bench.recolour((0, 0, "white"))
                self.bench.recolour((0, 0, "White"))
        self.assertEqual(self.state(), kept)
        with self.bench:
            self.bench.recolour((0, 0, "white"))
            with self.assertRaises(NoStep):
                with self.bench:
                    self.bench.back(99)
            self.assertEqual(len(self.bench.history), 2)
        self.assertEqual(self.state(), kept)

    def test_a_block_that_a_return_leaves(self):
        def left():
            with self.bench:
                self.bench.recolour((0, 0, "white"))
                return self.state()

        kept = self.state()
        self.assertNotEqual(left(), kept)
        self.assertEqual(self.state(), kept)

    def test_two_benches_by_turns(self):
        other = Bench(self.bench.press, Book(), Picture())
        kept = self.state(), self.state(other)
        with self.bench:
            with other:
                self.bench.recolour((0, 0, "white"))
                other.recolour((0, 0, "red"), (1, 0, "red"))
                self.assertEqual((len(self.bench.history), len(other.history)), (2, 2))
            self.assertEqual((len(self.bench.history), self.state(other)), (2, kept[1]))
        self.assertEqual((self.state(), self.state(other)), kept)


class TriedTest(unittest.TestCase, Checks):
    def setUp(self):
        self.press, self.book = two_press(), plain_book()
        self.bench = Bench(self.press, self.book, PAGE)
        self.bench.recolour((1, 1, "red"))

    def test_rows(self):
        page = self.bench.page
        told = tried(self.bench, ((0, 0, "white"),), [], [[0, 0, "blue"], [5, 5, "red"]])
        pages = [Picture(((0, 1, "blue"), (1, 1, "red")))] * 2
        pages.append(Picture(((0, 0, "blue"), (0, 1, "blue"), (1, 1, "red"), (5, 5, "red"))))
        self.assertEqual(told, tuple([self.book.made(self.press, other) for other in pages]))
        self.assertEqual((self.bench.page, self.bench.history), (page, ((1, 1, "white", "red"),)))
        self.assertEqual((tried(self.bench), self.bench.page), ((), page))

    def test_twenty_rows(self):
        rows = [((0, k, "blue"),) for k in range(20)]
        told = tried(self.bench, *rows)
        self.assertEqual([len(job.plates[1]) for job in told], [max(k, 2) for k in range(1, 21)])
        self.assertEqual(self.bench.history, ((1, 1, "white", "red"),))
        # No error is named for more rows.
        self.assertEqual(tried(self.bench, *rows, ((0, 0, "white"),))[:20], told)

    def test_errors(self):
        kept = self.bench.page, self.bench.history
        for rows, number in (((((0, 0, "Red"),),), 0), ((((0, 0, "red"),), ((1, 1, "red"), (1, 2, 3))), 1),
                             ((((0, 0, "white"),), (), ((1, 1, "red"), (1, 1, "tan"), (1, True, "tan"))), 2)):
            self.assert_error(BadChange, {"number": number}, tried, self.bench, *rows)
            self.assertEqual((self.bench.page, self.bench.history), kept)
        with self.bench:
            self.bench.recolour((9, 9, "red"))
            self.assert_error(BadChange, {"number": 0}, tried, self.bench, ((9, 9, "blue"),), (None,))
            self.assertEqual(self.bench.page[(9, 9)], "red")
        self.assertEqual((self.bench.page, self.bench.history), kept)

    def test_against_whole_books(self):
        chance = rng(167)
        for _ in range(40):
            book = random_book(chance, HUES, ("sky", "sun"), 4)
            bench = Bench(self.press, book, random_picture(chance, ("red", "blue"), 3, 3))
            rows = [random_changes(chance) for _ in range(chance.randint(0, 5))]
            cells = {cell[:2]: cell[2] for cell in bench.page}
            expected = []
            for row in rows:
                cells |= {change[:2]: change[2] for change in row}
                page = Picture(sorted([(*cell, hue) for cell, hue in cells.items() if hue != "white"]))
                expected.append(book.made(self.press, page))
            kept = bench.page
            self.assertEqual(tried(bench, *rows), tuple(expected))
            self.assertEqual((bench.page, bench.history), (kept, ()))


if __name__ == "__main__":
    unittest.main()
