import unittest

from strayplates.drawing import Drawing, hidden, lean_drawing, plain_drawing
from strayplates.errors import BadDeed, BadStamp, Clash, TooMany
from strayplates.picture import Picture
from tests.tools import ODD, Checks, listed, random_picture, rng

TREE = ("tree", (".x.", "xxx"))
DEEDS = (("box", 0, 0, 6, 8, "blue"), ("again", 2, 0, 4, (("put", "tree", 1, 0, "green"), ("row", 3, 1, ("brown",)))))


def paint(deeds, stamps, down, right, page, times):
    """The page painted deed by deed, as [10] tells it; times counts the painted cells."""
    for deed in deeds:
        kind = deed[0]
        if kind == "again":
            for k in range(deed[1]):
                paint(deed[4], stamps, down + k * deed[2], right + k * deed[3], page, times)
            continue
        if kind == "put":
            rows = dict(stamps)[deed[1]]
            cells = [(deed[2] + r, deed[3] + c, deed[4]) for r in range(len(rows)) for c in range(len(rows[0]))
                     if rows[r][c] == "x"]
        elif kind == "row":
            cells = [(deed[1], deed[2] + k, deed[3][k]) for k in range(len(deed[3]))]
        else:
            steps = deed[5:7] if kind == "dots" else (1, 1)
            cells = [(deed[1] + r, deed[2] + c, deed[-1]) for r in range(deed[3]) for c in range(deed[4])
                     if r % steps[0] == 0 and c % steps[1] == 0]
        for row, column, hue in cells:
            page[(row + down, column + right)] = hue
            times.append(1)


def told_page(drawing):
    """The picture, and how many cells are painted."""
    page, times = {}, []
    paint(drawing.deeds, drawing.stamps, 0, 0, page, times)
    rows, columns = [row for row, _ in page] or [0], [column for _, column in page] or [0]
    colours = [[page.get((row, column), "white") for column in range(min(columns), max(columns) + 1)]
               for row in range(min(rows), max(rows) + 1)]
    return Picture.of(colours, top=min(rows), left=min(columns)), len(times)


def random_deed(chance, level=0):
    hue = chance.choice(("red", "blue", "white"))
    at = (chance.randint(-3, 3), chance.randint(-3, 3))
    kind = chance.choice(("box", "row", "dots", "put", "again" if level < 3 else "box"))
    if kind == "box":
        return ("box", *at, chance.randint(1, 3), chance.randint(1, 3), hue)
    if kind == "row":
        return ("row", *at, tuple([chance.choice(("red", "blue", "white")) for _ in range(chance.randint(1, 4))]))
    if kind == "dots":
        return ("dots", *at, chance.randint(1, 4), chance.randint(1, 4), chance.randint(1, 3), chance.randint(1, 3), hue)
    if kind == "put":
        return ("put", "tree", *at, hue)
    deeds = tuple([random_deed(chance, level + 1) for _ in range(chance.randint(0, 2))])
    return ("again", chance.randint(0, 2), chance.randint(-2, 2), chance.randint(-2, 2), deeds)


class DrawingTest(unittest.TestCase, Checks):
    def test_example(self):
        drawing = Drawing((TREE,), DEEDS)
        rows = ["bbbbbbbb", "bgbbbgbb", "gggbgggb", "bnbbbnbb", "bbbbbbbb", "bbbbbbbb"]
        signs = {"b": "blue", "g": "green", "n": "brown"}
        self.assertEqual(drawing.drawn(), Picture.of([[signs[sign] for sign in row] for row in rows]))
        self.assertEqual(drawing.painted, 48 + 2 * 5)
        self.assertEqual(drawing.unrolled(), (
            DEEDS[0], ("put", "tree", 1, 0, "green"), ("row", 3, 1, ("brown",)),
            ("put", "tree", 1, 4, "green"), ("row", 3, 5, ("brown",))))
        self.assertEqual(drawing.drawn(rows=100, columns=-7), drawing.drawn().moved(100, -7))

    def test_attributes(self):
        drawing = Drawing((TREE,), DEEDS)
        self.assertEqual((drawing.stamps, drawing.deeds), ((TREE,), DEEDS))
        self.assertEqual((len(drawing), list(drawing)), (2, list(DEEDS)))
        empty = Drawing()
        self.assertEqual((empty.stamps, empty.deeds, empty.painted, empty.unrolled()), ((), (), 0, ()))
        self.assertEqual((empty.drawn(), hidden(empty), lean_drawing(empty)), (Picture(), (), empty))
        self.assertTrue(drawing == Drawing(listed((TREE,)), listed(DEEDS)))
        self.assertTrue(drawing != Drawing((TREE,), DEEDS[:1]))
        self.assertTrue(Drawing((TREE,)) != Drawing())
        for thing in ODD:
            self.assertIs(drawing == thing, False)

    def test_each_deed(self):
        stamp = ("spot", ("x.x", "...", ".x."))
        for deed, cells in (
                (("box", -1, 2, 2, 1, "red"), [(-1, 2), (0, 2)]),
                (("row", 4, -2, ("red",) * 3), [(4, -2), (4, -1), (4, 0)]),
                (("dots", 1, 1, 4, 6, 3, 2, "red"), [(1, 1), (1, 3), (1, 5), (4, 1), (4, 3), (4, 5)]),
                (("dots", 1, 1, 2, 2, 9, 9, "red"), [(1, 1)]),
                (("put", "spot", 5, 5, "red"), [(5, 5), (5, 7), (7, 6)]),
                (("again", 0, 1, 1, (("box", 0, 0, 1, 1, "red"),)), []),
                (("again", 9, 1, 1, ()), []),
                (("again", 3, 2, -1, (("box", 0, 0, 1, 1, "red"),)), [(0, 0), (2, -1), (4, -2)])):
            drawing = Drawing((stamp,), (deed,))
            self.assertEqual([(row, column) for row, column, _ in drawing.drawn()], cells)
            self.assertEqual(drawing.painted, len(cells))

    def test_order_and_white(self):
        drawing = Drawing((), (("box", 0, 0, 1, 3, "red"), ("row", 0, 1, ("white", "blue", "white"))))
        self.assertEqual(drawing.drawn(), Picture(((0, 0, "red"), (0, 2, "blue"))))
        self.assertEqual(drawing.painted, 6)

    def test_wrong_stamps(self):
        Drawing((("a", ("x" * 8,) * 6), ("b", (".",))))
        for stamp in (None, "ab", ("b",), ("b", ()), ("b", "x"), ("b", ("x",) * 7), ("b", ("",)), ("b", ("x" * 9,)),
                      ("b", ("x", "xx")), ("b", ("y",)), ("b", (1,)), ("b", (("x",),)), ("B", ("x",)), (1, ("x",)),
                      ("a", (".",)), ("b", ("x",), 1), ("b", ("x", ("x",))), ("b", ("x", None)), ("b", (" ",)), ("b", ("X",))):
            self.assert_error(BadStamp, {"number": 1}, Drawing, (("a", ("x",)), stamp, None), None)
        seven = tuple([(letter, ("x",)) for letter in "abcdefg"])
        self.assertEqual(len(Drawing(seven[:6]).stamps), 6)
        for thing in (None, "ab", seven, {}, 3, (None,) * 7):
            self.assert_error(BadStamp, {"number": -1}, Drawing, thing, None)

    def test_the_bounds_of_deeds(self):
        for deed, at, low, high in (
                (("box", 0, 0, 1, 1, "red"), 1, -20, 20), (("box", 0, 0, 1, 1, "red"), 2, -20, 20),
                (("box", 0, 0, 1, 1, "red"), 3, 1, 12), (("box", 0, 0, 1, 1, "red"), 4, 1, 12),
                (("row", 0, 0, ("red",)), 1, -20, 20), (("row", 0, 0, ("red",)), 2, -20, 20),
                (("dots", 0, 0, 1, 1, 1, 1, "red"), 1, -20, 20), (("dots", 0, 0, 1, 1, 1, 1, "red"), 2, -20, 20),
                (("dots", 0, 0, 1, 1, 1, 1, "red"), 3, 1, 12), (("dots", 0, 0, 1, 1, 1, 1, "red"), 4, 1, 12),
                (("dots", 0, 0, 1, 1, 1, 1, "red"), 5, 1, 9), (("dots", 0, 0, 1, 1, 1, 1, "red"), 6, 1, 9),
                (("put", "tree", 0, 0, "red"), 2, -20, 20), (("put", "tree", 0, 0, "red"), 3, -20, 20),
                (("again", 1, 0, 0, ()), 1, 0, 9), (("again", 1, 0, 0, ()), 2, -20, 20),
                (("again", 1, 0, 0, ()), 3, -20, 20)):
            fit = []
            for number in range(-30, 31):
                try:
                    Drawing((TREE,), ((*deed[:at], number, *deed[at + 1:]),))
                    fit.append(number)
                except BadDeed as e:
                    self.assertEqual(vars(e), {"number": 0})
            self.assertEqual(fit, list(range(low, high + 1)))
            for thing in (True, False, None, "1", 1.0):
                self.assert_error(BadDeed, {"number": 0}, Drawing, (TREE,), ((*deed[:at], thing, *deed[at + 1:]),))

    def test_wrong_deeds(self):
        deep = ("box", 0, 0, 1, 1, "red")
        for level in range(3):
            deep = ("again", 1, 0, 0, (deep,))
            Drawing((), (deep,))
        for deed in (None, "box", (), ("box",), ("box", 0, 0, 1, 1), ("box", 0, 0, 1, 1, "Red"),
                     ("box", 0, 0, 1, 1, "red", 1), ("row", 0, 0, ()), ("row", 0, 0, ("red",) * 21),
                     ("row", 0, 0, "red"), ("row", 0, 0, (1,)), ("row", 0, 0), ("dots", 0, 0, 1, 1, "red"),
                     ("put", "bush", 0, 0, "red"), ("put", "tree", 0, 0), ("put", "tree", 0, 0, 1),
                     ("put", ["tree"], 0, 0, "red"), ("again", 1, 0, 0), ("again", 1, 0, 0, None),
                     ("again", 1, 0, 0, "ab"), ("again", 1, 0, 0, (None,)), ("again", 0, 0, 0, (("row", 0, 0, ()),)),
                     ("again", 1, 0, 0, (("put", "bush", 0, 0, "red"),)), ("again", 1, 0, 0, (deep,)),
                     ("again", 1, 0, 0, ("box", 0, 0, 1, 1, "red")), ("paint", 0, 0), (("box",), 0, 0, 1, 1, "red"),
                     ("paint", 0, 0, ("red",)), ("paint", 0, 0, 1, 1, 1, 1, "red"), ("paint", 1, 0, 0, ()),
                     ("paint", 0, 0, 1, 1, "red"), ("paint", "tree", 0, 0, "red"), ("dots", 0, 0, 1, 1, 1, 1, "Red"),
                     ("dots", 0, 0, 1, 1, 1, 1, "red", 1), ("dots", 0, 0, 1, 1, 1, 1),
                     (True,), ("tree", (".x.", "xxx"))):
            self.assert_error(BadDeed, {"number": 1}, Drawing, (TREE,), (("row", 0, 0, ("red",)), deed, None))
        for thing in (None, "ab", 3, {}, {("box", 0, 0, 1, 1, "red")}):
            self.assert_error(BadDeed, {"number": -1}, Drawing, (), thing)

    def test_how_many_deeds(self):
        dot = ("box", 0, 0, 1, 1, "red")
        self.assertEqual(Drawing((), (dot,) * 40).painted, 40)
        self.assert_error(TooMany, {"word": "deed"}, Drawing, (), (dot,) * 41)
        self.assertEqual(Drawing((), (dot,) * 37 + (("again", 9, 1, 1, (dot, dot)),)).painted, 55)
        self.assert_error(TooMany, {"word": "deed"}, Drawing, (), (dot,) * 37 + (("again", 0, 1, 1, (dot, dot, dot)),))
        self.assert_error(BadDeed, {"number": 41}, Drawing, (), (dot,) * 41 + (None,))

    def test_how_many_cells(self):
        big = ("box", 0, 0, 10, 10, "white")
        self.assertEqual(Drawing((), (("again", 5, 1, 1, (big,) * 4),)).painted, 2000)
        self.assert_error(TooMany, {"word": "cell"}, Drawing, (),
                          (("again", 5, 1, 1, (big,) * 4), ("row", 0, 0, ("red",))))
        deep = ("again", 9, 0, 0, (("again", 9, 0, 0, (("again", 9, 0, 0, (("box", 0, 0, 12, 12, "red"),)),)),))
        self.assert_error(TooMany, {"word": "cell"}, Drawing, (), (deep,) * 10)
        self.assert_error(TooMany, {"word": "deed"}, Drawing, (), (deep,) * 11)
        empty = ("again", 9, 1, 1, (("again", 9, 1, 1, (("again", 9, 1, 1, (("put", "void", 0, 0, "red"),)),)),))
        drawing = Drawing((("void", ("..",)),), (empty,))
        self.assertEqual((drawing.painted, len(drawing.unrolled()), hidden(drawing)), (0, 729, (0,)))

    def test_lists_are_kept_as_tuples(self):
        stamps, deeds = listed((TREE,)), listed(DEEDS)
        drawing = Drawing(stamps, deeds)
        stamps[0][1][0] = "xxx"
        deeds[1][4][0][1] = "bush"
        deeds.pop()
        self.assertTrue(drawing == Drawing((TREE,), DEEDS))
        self.assert_tuples((drawing.stamps, drawing.deeds, drawing.unrolled()))

    def test_sum(self):
        bush = ("bush", ("x",))
        one, other = Drawing((TREE,), DEEDS), Drawing((bush, TREE), (("put", "bush", 0, 0, "red"),))
        self.assertEqual((one + other).stamps, (TREE, bush))
        self.assertEqual((one + other).deeds, DEEDS + other.deeds)
        self.assertEqual((other + one).stamps, (bush, TREE))
        clash = Drawing((("a", ("x",)), ("bush", (".",)), ("tree", ("x",))))
        self.assert_error(Clash, {"name": "bush"}, lambda: other + clash)
        self.assert_error(Clash, {"name": "tree"}, lambda: one + clash)
        many = Drawing(tuple([(letter, ("x",)) for letter in "abcdef"]))
        self.assert_error(BadStamp, {"number": -1}, lambda: many + other)
        self.assert_error(Clash, {"name": "a"}, lambda: many + Drawing((("g", ("x",)), ("a", (".",)))))
        dots = Drawing((), (("box", 0, 0, 1, 1, "red"),) * 21)
        self.assert_error(TooMany, {"word": "deed"}, lambda: dots + dots)
        boxes = Drawing((), (("box", 0, 0, 12, 12, "red"),) * 7)
        self.assert_error(TooMany, {"word": "cell"}, lambda: boxes + boxes)
        self.assertEqual((one + Drawing(), Drawing() + one), (one, one))

    def test_hidden(self):
        deeds = (("box", 0, 0, 2, 2, "red"), ("box", 0, 0, 2, 2, "blue"), ("box", 0, 0, 1, 1, "blue"),
                 ("box", 5, 5, 1, 1, "white"), ("again", 0, 0, 0, ()), ("row", 0, 1, ("red",)))
        drawing = Drawing((), deeds)
        self.assertEqual(hidden(drawing), (0, 2, 3, 4))
        self.assertEqual(lean_drawing(drawing).deeds, (deeds[1], deeds[5]))
        # Two deeds that paint the same are both hidden; the last one is left out.
        twice = Drawing((TREE,), (("box", 0, 0, 1, 1, "red"), ("row", 0, 0, ("red",))))
        self.assertEqual(hidden(twice), (0, 1))
        self.assertEqual(lean_drawing(twice), Drawing((TREE,), (("box", 0, 0, 1, 1, "red"),)))

    def test_against_plain_ways(self):
        chance = rng(6)
        for _ in range(120):
            deeds = tuple([random_deed(chance) for _ in range(chance.randint(0, 6))])
            drawing = Drawing((TREE,), deeds)
            page, times = told_page(drawing)
            self.assertEqual((drawing.drawn(), drawing.painted), (page, times))
            unrolled = drawing.unrolled()
            self.assertNotIn("again", [deed[0] for deed in unrolled])
            if len(unrolled) <= 40:
                self.assertEqual(Drawing((TREE,), unrolled).drawn(), page)
            told = [k for k in range(len(deeds)) if Drawing((TREE,), deeds[:k] + deeds[k + 1:]).drawn() == page]
            self.assertEqual(hidden(drawing), tuple(told))
            lean = deeds
            while told:
                lean = lean[:told[-1]] + lean[told[-1] + 1:]
                told = [k for k in range(len(lean)) if Drawing((TREE,), lean[:k] + lean[k + 1:]).drawn() == page]
            self.assertEqual(lean_drawing(drawing), Drawing((TREE,), lean))
            self.assertEqual(lean_drawing(drawing).drawn(), page)
            self.assertEqual(hidden(lean_drawing(drawing)), ())

    def test_plain_drawing(self):
        page = Picture.of((("red", "blue", "white", "red"), (), ("white", "red")), top=-20, left=-20)
        drawing = plain_drawing(page)
        self.assertEqual((drawing.stamps, drawing.deeds), ((), (
            ("row", -20, -20, ("red", "blue")), ("row", -20, -17, ("red",)), ("row", -18, -19, ("red",)))))
        self.assertEqual(plain_drawing(Picture()), Drawing())
        for many, lengths in ((19, [19]), (20, [20]), (21, [20, 1]), (40, [20, 20]), (41, [20, 20, 1])):
            drawing = plain_drawing(Picture.of((("red",) * many,), top=3, left=-20))
            self.assertEqual([len(deed[3]) for deed in drawing], lengths)
            self.assertEqual([deed[2] for deed in drawing], list(range(-20, -20 + many, 20)))
            self.assertEqual(drawing.drawn(), Picture.of((("red",) * many,), top=3, left=-20))
        chance = rng(1)
        for _ in range(30):
            page = random_picture(chance, ("red", "blue"), 4, 6)
            self.assertEqual(plain_drawing(page).drawn(), page)

    def test_plain_drawing_errors(self):
        self.assert_error(BadDeed, {"number": 1}, plain_drawing, Picture(((0, 0, "red"), (0, 21, "red"))))
        self.assert_error(BadDeed, {"number": 0}, plain_drawing, Picture(((-21, 0, "red"),)))
        spots = Picture(tuple([(row, 2 * k, "red") for row in range(6) for k in range(7)])[:41])
        self.assert_error(TooMany, {"word": "deed"}, plain_drawing, spots)
        self.assertEqual(len(plain_drawing(Picture(spots.cells[:40]))), 40)
        wide = Picture.of([("red",) * 41] * 13 + [()])
        self.assertEqual(sum([len(deed[3]) for deed in plain_drawing(wide.moved(0, -20))]), 13 * 41)
        tall = Picture.of([("red",) * 60] * 13, left=-20)
        self.assertEqual(len(plain_drawing(tall)), 39)


if __name__ == "__main__":
    unittest.main()
