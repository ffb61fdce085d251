"""Trees of cases: whether a local claim holds for all pages, at all lies of a press."""

from strayplates.asking import UNMET, want_by
from strayplates.claims import judged_local
from strayplates.common import are_integers, is_integer, is_number_of, is_tuple, plain
from strayplates.errors import BadBars, TooMany
from strayplates.forms import forms
from strayplates.picture import picture_of
from strayplates.words import WHITE, is_cell, judged_palette, neighbours


def judged_bars(bars, palette, most):
    """The bars as a tuple of pairs of colours of the palette."""
    told = plain(bars)
    if not is_tuple(told, 0, most):
        raise BadBars(-1)
    for number, bar in enumerate(told):
        fit = is_tuple(bar, 2, 2) and bar[0] in palette and bar[1] in palette and bar[0] < bar[1]
        if not fit or bar in told[:number]:
            raise BadBars(number)
    return told


class Ground:
    """What is given to all trees of cases: a press, a book, a palette and bars."""

    def __init__(self, press, book, palette, bars):
        self.press = press
        self.book = book
        self.bars = bars
        self.shades = (WHITE, *palette)

    def want_at(self, lie, told, want):
        return want_by(self.press, self.book, lie, told, want)

    def barred(self, told, cell, colour):
        """Whether bars do not allow the colour at the cell, beside the neighbours that are told."""
        for other in neighbours(cell):
            if other in told and tuple(sorted([colour, told[other]])) in self.bars:
                return True
        return False


class Tree:
    """The tree of cases for a lie and a form, and the first of its open rows with the fewest inked cells."""

    def __init__(self, ground, lie, form, most):
        self.ground = ground
        self.lie = lie
        self.form = form
        self.open_told = None
        self.rows = []
        self._follows = {}
        # Each entry: the row that waits for this one's number, and where; what is told; what the wants are.
        # The last one is taken first, so that all rows that come of a row stand directly behind it.
        self._waiting = [(None, 0, {}, [ground.want_at(lie, {}, want) for want in form])]
        while self._waiting:
            if len(self.rows) == most:
                raise TooMany("case")
            above, slot, told, answers = self._waiting.pop()
            if above is not None:
                self._follows[above][slot] = len(self.rows)
            self._add_row(told, answers)

    def _add_row(self, told, answers):
        asked = [answer[1] for answer in answers if answer[0] == "needs"]
        if UNMET in answers:
            self.rows.append(("shut", answers.index(UNMET)))
        elif asked:
            self._add_followers(told, answers, asked[0])
            self.rows.append(("ask", asked[0]))
        else:
            self.rows.append(("open",))
            if self.open_told is None or inked(told) < inked(self.open_told):
                self.open_told = told

    def _add_followers(self, told, answers, cell):
        ground = self.ground
        self._follows[len(self.rows)] = [-1 for _ in ground.shades]
        for slot, colour in reversed(list(enumerate(ground.shades))):
            if not ground.barred(told, cell, colour):
                further = {other: told[other] for other in told}
                further[cell] = colour
                self._waiting.append((len(self.rows), slot, further, self._answers(further, answers, cell)))

    def _answers(self, told, answers, cell):
        """The answers to all wants, of which only those that needed the cell can be new."""
        found = []
        for want, answer in zip(self.form, answers):
            if answer == ("needs", cell):
                found.append(self.ground.want_at(self.lie, told, want))
            else:
                found.append(answer)
        return found

    def told_rows(self):
        found = []
        for number, row in enumerate(self.rows):
            if number in self._follows:
                found.append((*row, tuple(self._follows[number])))
            else:
                found.append(row)
        return tuple(found)


def inked(told):
    """How many of the cells that are told are inked."""
    return len([cell for cell in told if told[cell] != WHITE])


class Cases:
    def __init__(self, press, book, colours, claim, *, bars=()):
        palette = judged_palette(colours)
        shapes = forms(judged_local(claim), palette)
        ground = Ground(press, book, palette, judged_bars(bars, palette, 6))
        trees = []
        many = 0
        least = (None, None, None)
        for number, lie in enumerate(press.lies):
            for place, form in enumerate(shapes):
                tree = Tree(ground, lie, form, 4000 - many)
                many += len(tree.rows)
                trees.append(tree.told_rows())
                told = tree.open_told
                if told is not None and (least[0] is None or inked(told) < inked(least[0])):
                    least = (told, number, place)
        told, self.lie, self.form = least
        self.table = tuple(trees) if told is None else None
        self.broken_page = None if told is None else picture_of(told)
        self._rows = () if self.table is None else self.table

    def __bool__(self):
        return self.table is not None

    def __len__(self):
        return len(self._rows)

    def __iter__(self):
        return iter(self._rows)


def _is_case(row, many):
    """Whether it has the form of a row of the first or second kind, with so many rows that follow."""
    if not isinstance(row, tuple) or row == () or not isinstance(row[0], str):
        return False
    if row[0] == "shut":
        return len(row) == 2 and is_integer(row[1])
    if row[0] != "ask" or len(row) != 3:
        return False
    return is_cell(row[1]) and are_integers(row[2]) and len(row[2]) == many


def _is_linked(tree):
    """Whether each row but the first one is told by just one row, and once, which stands ahead of it."""
    times = [0 for _ in tree]
    for number, row in enumerate(tree):
        if row[0] == "ask":
            for follow in row[2]:
                if follow != -1:
                    if follow <= number or follow >= len(tree):
                        return False
                    times[follow] += 1
    return all([many == 1 for many in times[1:]])


def _is_ask_right(ground, told, cell, follows):
    if cell in told:
        return False
    barred = [ground.barred(told, cell, colour) for colour in ground.shades]
    return barred == [follow == -1 for follow in follows]


def _is_right(ground, lie, form, tree):
    if not isinstance(tree, tuple) or tree == ():
        return False
    if not all([_is_case(row, len(ground.shades)) for row in tree]) or not _is_linked(tree):
        return False
    known = {0: {}}
    for number, row in enumerate(tree):
        told = known.pop(number)
        if row[0] == "shut":
            if not is_number_of(row[1], form) or ground.want_at(lie, told, form[row[1]]) != UNMET:
                return False
        else:
            _, cell, follows = row
            if not _is_ask_right(ground, told, cell, follows):
                return False
            for colour, follow in zip(ground.shades, follows):
                if follow != -1:
                    known[follow] = {other: told[other] for other in told}
                    known[follow][cell] = colour
    return True


def judge_cases(press, book, colours, claim, table, *, bars=()):
    palette = judged_palette(colours)
    shapes = forms(judged_local(claim), palette)
    ground = Ground(press, book, palette, judged_bars(bars, palette, 6))
    trees = plain(table)
    if not is_tuple(trees, len(press.lies) * len(shapes), len(press.lies) * len(shapes)):
        return -1
    for number, tree in enumerate(trees):
        lie = press.lies[number // len(shapes)]
        if not _is_right(ground, lie, shapes[number % len(shapes)], tree):
            return number
    return None
