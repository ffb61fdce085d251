import itertools
import unittest

from strayplates.book import Book
from strayplates.cases import Cases
from strayplates.errors import BadClaim, BadLot, BadMenu, BadMost, BadOrder, BadPalette, BadPress, TooMany
from strayplates.orders import Orders
from strayplates.passplans import PassPlans
from strayplates.picture import Picture
from strayplates.press import Press
from strayplates.remedies import Remedies
from strayplates.shelf import Shelf
from tests.test_bookpair import NO_PALETTES
from tests.tools import ODD, ROSE, SKY, SUN, Checks, listed, lots, plain_book, random_book, random_rule, rng, two_press

PALETTE = ("blue", "red")
SHUT = ("shut", "across", "yellow", "blue", 1)
NO_CLAIMS = (None, ("holes",), ("pieces", "red"), ("blank", 0, 0, 1, 1), ["never"], "true", ("never", "white"), ())
CLAIMS = (("never", "green"), ("never", "orange"), SHUT, ("narrow", "across", "blue", 1), ("keeps", "red"),
          ("thick", "across", "blue", 2), ("true",), ("fringe", "yellow", 1), ("never", "yellow"))
INKS = ("rose", "sky", "sun")
# With this press, book and claim there are more than 4000 cases.
MANY = (Press(Shelf((SUN, ("moon", "black", ()))), (("sun", 0), ("moon", 0))),
        Book((("red", "near", "blue", ("sun",)), ("blue", "near", "red", ("moon",)), ("white", "near", "red", ()))),
        PALETTE, ("narrow", "across", "yellow", 4))


def answer(press, book, palette, claim):
    return Cases(press, book, palette, claim).broken_page


class RemediesTest(unittest.TestCase, Checks):
    def setUp(self):
        self.press, self.book = two_press(), plain_book()
        self.rules = (("blue", "left", "red", ("sky", "sun")), ("tan", ("sun",)), ("red", ()))

    def test_a_small_book(self):
        told = Remedies(self.press, self.book, PALETTE, SHUT, self.rules)
        page = Picture(((0, 0, "red"), (0, 1, "blue")))
        # Two remedies are none together: no red is printed then, but yellow beside it.
        serving = [(0,), (2,), (0, 1), (1, 2)]
        self.assertTrue(told)
        self.assertEqual([lot for lot, _ in told.table], lots(3))
        self.assertEqual([lot for lot, broken in told.table if broken is None], serving)
        self.assertEqual([dict(told.table)[lot] for lot in ((), (1,))], [page, page])
        self.assertEqual((len(told), list(told)), (2, [(0,), (2,)]))
        for lot in lots(3):
            self.assertIs(lot in told, lot in serving)
            self.assertEqual(told.mended(listed(lot)), Book([self.rules[number] for number in lot]) + self.book)
        self.assertIs([0, 1] in told, True)
        for thing in ODD + ((False,), (0, 0), (3,), (-1,), (0.0,), ("0",), 0, (1, 0), ((0,),), (0, None), (True, 2)):
            if thing not in ((1, 2), ()):
                self.assertIs(thing in told, False)

    def test_lots_that_are_none(self):
        told = Remedies(self.press, self.book, PALETTE, SHUT, self.rules)
        for thing in (None, 0, "0", {}, (3,), (-1,), (1, 0), (0, 0), (False,), [True], (0, None), ((0,),), (0, 1, 2, 3), {0}):
            self.assert_error(BadLot, {"lot": thing}, told.mended, thing)

    def test_no_remedy_and_no_need(self):
        told = Remedies(self.press, self.book, PALETTE, ("never", "yellow"), ())
        self.assertFalse(told)
        self.assertEqual((told.table, len(told), list(told)), ((((), Picture(((0, 0, "red"),))),), 0, []))
        self.assertIs(() in told, False)
        whole = Remedies(self.press, self.book, PALETTE, ("never", "tan"), self.rules)
        self.assertEqual((bool(whole), list(whole), set(dict(whole.table).values())), (True, [()], {None}))

    def test_errors(self):
        for thing in NO_PALETTES:
            self.assert_error(BadPalette, {"colours": thing}, Remedies, self.press, self.book, thing, None, None)
        for thing in NO_CLAIMS:
            self.assert_error(BadClaim, {"claim": thing}, Remedies, self.press, self.book, PALETTE, thing, None)
        for thing in (None, 3, "ab", {}, (None,) * 5, self.rules * 2):
            self.assert_error(BadMenu, {"number": -1}, Remedies, self.press, self.book, PALETTE, SHUT, thing)
        for thing in (None, (), "ab", ("white", ()), ("red", ("sun", "sky")), ("red", "side", "blue", ()), ("red",), ("Red", ())):
            self.assert_error(BadMenu, {"number": 1}, Remedies, self.press, self.book, PALETTE, SHUT,
                              (self.rules[0], thing, None))
        self.assertEqual(len(Remedies(self.press, self.book, PALETTE, SHUT, self.rules[:2] * 2).table), 16)

    def test_too_many(self):
        book = Book((("red", ("sun",)),) * 10)
        menu = (("red", ()),) * 3
        self.assertEqual(len(Remedies(self.press, book, PALETTE, SHUT, menu[:2]).table), 4)
        self.assert_error(TooMany, {"word": "rule"}, Remedies, self.press, book, PALETTE, SHUT, menu)
        press, wide, palette, claim = MANY
        self.assert_error(TooMany, {"word": "case"}, Remedies, press, wide, palette, claim, ())
        long = Book(wide.rules + (("red", ()),) * 8)
        self.assert_error(TooMany, {"word": "rule"}, Remedies, press, long, palette, claim, menu)
        self.assert_error(BadMenu, {"number": 2}, Remedies, press, long, palette, claim, (*menu[:2], None))

    def test_lists_are_kept(self):
        rules = listed(self.rules)
        told = Remedies(self.press, self.book, PALETTE, listed(SHUT), rules)
        rules[0][0] = "red"
        rules.pop()
        self.assertEqual(told.mended((0,)).rules[0], self.rules[0])
        self.assert_tuples((list(told)[0], told.table))
        self.assertIs((2,) in told, True)

    def test_against_cases(self):
        chance = rng(149)
        some = 0
        for _ in range(25):
            press = Press(Shelf((SUN, SKY, ROSE)), (("sun", 0), ("sky", 1), ("rose", 1))[:chance.randint(2, 3)], ((0, 0, 0, 1),))
            book = random_book(chance, ("white", *PALETTE), INKS, 3)
            rules = [random_rule(chance, ("white", *PALETTE), INKS) for _ in range(chance.randint(0, 4))]
            claim = chance.choice(CLAIMS)
            try:
                told = Remedies(press, book, listed(PALETTE), listed(claim), listed(rules))
            except TooMany:
                with self.assertRaises(TooMany):
                    for lot in lots(len(rules)):
                        answer(press, Book([rules[k] for k in lot]) + book, PALETTE, claim)
                continue
            rows = [(lot, answer(press, Book([rules[k] for k in lot] + list(book)), PALETTE, claim)) for lot in lots(len(rules))]
            self.assertEqual(told.table, tuple(rows))
            serving = [lot for lot, page in rows if page is None]
            self.assertEqual(list(told), [lot for lot in serving if not any(set(part) < set(lot) for part in serving)])
            self.assertIs(bool(told), bool(serving))
            for lot in lots(5):
                self.assertIs(lot in told, lot in serving)
            some += 0 < len(serving) < len(rows)
        self.assertGreater(some, 2)


class PassPlansTest(unittest.TestCase, Checks):
    def setUp(self):
        self.shelf, self.box, self.book = Shelf((SUN, SKY, ROSE)), (0, 0, 0, 1), plain_book()

    def plans(self, names=("sun", "sky"), most=2, claim=SHUT, box=None, book=None):
        return PassPlans(self.shelf, names, box or self.box, most, self.book if book is None else book, PALETTE, claim)

    def test_two_inks(self):
        told = self.plans()
        self.assertTrue(told)
        self.assertEqual(told.table, (((0, 0), None), ((0, 1), Picture(((0, 0, "red"), (0, 1, "blue"))))))
        self.assertEqual((told.best, len(told), tuple(told)), ((0, 0), 2, told.table))
        self.assertEqual(told.press_of([0, 0]), Press(self.shelf, (("sun", 0), ("sky", 0))))
        self.assertEqual(told.press_of((0, 1)), Press(self.shelf, (("sun", 0), ("sky", 1)), (self.box,)))
        one = self.plans(most=1)
        self.assertFalse(one)
        self.assertEqual((one.best, [plan for plan, _ in one]), (None, [(0, 1)]))
        self.assert_error(BadOrder, {"order": (0, 0)}, one.press_of, (0, 0))

    def test_which_plans_there_are(self):
        claim = ("never", "tan")
        for names, most, expected in (
                (("rose",), 1, ((0,),)), (("rose",), 4, ((0,),)),
                (("sun", "rose", "sky"), 1, ((0, 1, 2),)),
                (("sun", "rose", "sky"), 2, ((0, 0, 1), (0, 1, 1), (0, 1, 2))),
                (("sun", "rose", "sky"), 3, ((0, 0, 0), (0, 0, 1), (0, 1, 1), (0, 1, 2)))):
            self.assertEqual([plan for plan, _ in self.plans(names, most, claim).table], list(expected))
        shelf = Shelf([(name, "red", ()) for name in "abcd"])
        for most in range(1, 5):
            told = PassPlans(shelf, tuple("dbca"), (0, 0, 0, 0), most, Book(), ("red",), claim)
            plans = [plan for plan in itertools.product(range(3), repeat=4) if plan[0] == 0
                     and all(0 <= plan[k + 1] - plan[k] <= 1 for k in range(3)) and max(map(plan.count, plan)) <= most]
            self.assertEqual([plan for plan, _ in told.table], sorted(plans, key=lambda plan: (plan[-1], plan)))
            self.assertEqual((bool(told), told.best), (most > 1, told.table[0][0] if most > 1 else None))
            for plan in plans:
                self.assertEqual(told.press_of(plan), Press(shelf, tuple(zip("dbca", plan)), ((0, 0, 0, 0),) * plan[-1]))

    def test_plans_that_are_none(self):
        told = self.plans(("sun", "sky", "rose"))
        for thing in (None, 0, "001", {}, (0, 0, 0), (0, 1), (0, 0, True), (False, 0, 1), (0, 2, 2), (1, 1, 1), [0, 0, "1"], ()):
            self.assert_error(BadOrder, {"order": thing}, told.press_of, thing)

    def test_errors(self):
        def call(*told):
            return (PassPlans, self.shelf, *told)

        for thing in (None, 3, "sun", (), ("sun", "sun"), ("sun", "moon"), ("sun", None), (("sun",),), {"sun": 1}, ["sun", True],
                      ("sun", "sky", "rose", "ash"), ("sun", "sky", "rose", "sun")):
            self.assert_error(BadPress, {"word": "units"}, *call(thing, None, None, None, None, None))
        five = Shelf([(name, "red", ()) for name in "abcde"])
        self.assert_error(BadPress, {"word": "units"}, PassPlans, five, tuple("abcde"), None, None, None, None, None)
        self.assert_error(BadPress, {"word": "boxes"}, PassPlans, five, tuple("abcd"), None, None, None, None, None)
        for thing in (None, 3, (), (0, 0, 0), (0, 0, 0, 4), (0, 0, 0, -1), (0, 0, 0, True), (0,) * 5, "0000", {}):
            self.assert_error(BadPress, {"word": "boxes"}, *call(("sun",), thing, None, None, None, None))
        for thing in (None, 0, 5, -1, True, "2", (2,), 2.0):
            self.assert_error(BadMost, {"most": thing}, *call(("sun",), self.box, thing, None, None, None))
        for thing in NO_PALETTES:
            self.assert_error(BadPalette, {"colours": thing}, *call(("sun",), self.box, 1, self.book, thing, None))
        for thing in NO_CLAIMS:
            self.assert_error(BadClaim, {"claim": thing}, *call(("sun",), self.box, 1, self.book, PALETTE, thing))

    def test_too_many(self):
        wide = (3, 3, 3, 3)
        names = ("sun", "sky", "rose")
        # The plans with two boxes have 2401 lies.
        self.assert_error(TooMany, {"word": "lie"}, self.plans, names, 2, ("never", "tan"), wide, Book())
        self.assertTrue(self.plans(names[:2], 2, ("never", "tan"), wide, Book()))
        press, book, palette, claim = MANY
        self.assert_error(TooMany, {"word": "case"}, PassPlans, press.shelf, ("sun", "moon"), self.box, 2, book, palette, claim)
        # The cases of the first plan are too many ahead of the lies of the last one.
        shelf = Shelf((*press.shelf.inks, SKY))
        self.assert_error(TooMany, {"word": "case"}, PassPlans, shelf, ("sun", "moon", "sky"), wide, 3, book, palette, claim)
        self.assert_error(TooMany, {"word": "lie"}, PassPlans, shelf, ("sun", "moon", "sky"), wide, 1, book, palette, claim)

    def test_lists(self):
        names, box = ["sun", "sky"], [0, 0, 0, 1]
        told = PassPlans(self.shelf, names, box, 2, self.book, ["blue", "red"], listed(SHUT))
        names.reverse()
        box[3] = 0
        self.assertEqual(told.table, self.plans().table)
        self.assertEqual(told.press_of((0, 1)).boxes, (self.box,))

    def test_against_cases(self):
        chance = rng(151)
        best = []
        for _ in range(25):
            names, most = tuple(chance.sample(INKS, chance.randint(1, 3))), chance.randint(1, 3)
            box = chance.choice(((0, 0, 0, 1), (0, 0, 0, 0), (1, 0, 0, 0)))
            book, claim = random_book(chance, ("white", *PALETTE), INKS, 4), chance.choice(CLAIMS)
            try:
                told = self.plans(names, most, claim, box, book)
            except TooMany:
                continue
            for plan, page in told:
                press = Press(self.shelf, tuple(zip(names, plan)), (box,) * plan[-1])
                self.assertEqual((told.press_of(plan), page), (press, answer(press, book, PALETTE, claim)))
            holding = [plan for plan, page in told.table if page is None]
            self.assertEqual(told.best, holding[0] if holding else None)
            self.assertIs(bool(told), bool(holding))
            best.append(told.best)
        self.assertGreater(len(set(best)), 2)


class OrdersTest(unittest.TestCase, Checks):
    def test_a_small_press(self):
        # Over red, rose is red; sky lets it through only where it prints first.
        shelf = Shelf((("sun", "yellow", (("blue", "green"),)), ("sky", "blue", ())))
        press = Press(shelf, (("sun", 0), ("sky", 0)))
        book = Book((("red", ("sky", "sun")),))
        told = Orders(press, book, ("red",), ("never", "blue"))
        self.assertTrue(told)
        self.assertEqual(told.table, (((0, 1), Picture(((0, 0, "red"),))), ((1, 0), None)))
        self.assertEqual((told.best, len(told), tuple(told)), ((1, 0), 2, told.table))
        self.assertEqual(told.press_of([1, 0]), Press(shelf, (("sky", 0), ("sun", 0))))
        self.assertEqual(told.press_of((0, 1)), press)
        none = Orders(press, book, ("red",), ("keeps", "red"))
        self.assertFalse(none)
        self.assertEqual((none.best, [order for order, _ in none]), (None, [(0, 1), (1, 0)]))

    def test_orders_that_are_none(self):
        told = Orders(two_press(), plain_book(), PALETTE, SHUT)
        for thing in (None, 0, "01", {}, (), (0,), (0, 0), (0, 2), (0, 1, 2), (False, 1), (0, True), [1, None], ((0, 1),)):
            self.assert_error(BadOrder, {"order": thing}, told.press_of, thing)

    def test_errors(self):
        four = Press(Shelf([(name, "red", ()) for name in "abcd"]), [(name, 0) for name in "abcd"])
        for thing in NO_PALETTES:
            self.assert_error(BadPalette, {"colours": thing}, Orders, four, Book(), thing, None)
        for thing in NO_CLAIMS:
            self.assert_error(BadClaim, {"claim": thing}, Orders, four, Book(), PALETTE, thing)
        self.assert_error(TooMany, {"word": "order"}, Orders, four, Book(), PALETTE, ("true",))
        three = Press(four.shelf, four.units[:3])
        self.assertEqual(len(Orders(three, Book(), PALETTE, ("true",)).table), 6)
        self.assertEqual(Orders(Press(four.shelf, four.units[:1]), Book(), PALETTE, ("never", "red")).table, (((0,), None),))
        self.assert_error(TooMany, {"word": "case"}, Orders, *MANY)

    def test_against_cases(self):
        chance = rng(157)
        best = []
        shelf = Shelf((SUN, SKY, ROSE))
        for _ in range(40):
            boxes = chance.choice(((), ((0, 0, 0, 1),)))
            names = chance.sample(INKS, chance.randint(2, 3))
            press = Press(shelf, [(name, chance.randint(0, len(boxes))) for name in names], boxes)
            book, claim = random_book(chance, ("white", *PALETTE), INKS, 4, 1), chance.choice(CLAIMS)
            try:
                told = Orders(press, book, listed(PALETTE), listed(claim))
            except TooMany:
                continue
            self.assertEqual([order for order, _ in told.table], list(itertools.permutations(range(len(names)))))
            for order, page in told:
                other = Press(shelf, [press.units[number] for number in order], boxes)
                self.assertEqual((told.press_of(order), page), (other, answer(other, book, PALETTE, claim)))
            holding = [order for order, page in told.table if page is None]
            self.assertEqual((told.best, bool(told)), (holding[0] if holding else None, bool(holding)))
            best.append(told.best)
        self.assertGreater(len(set(best)), 2)


if __name__ == "__main__":
    unittest.main()
