"""Benches: pages that are changed cell by cell, with the plates that a book makes of them."""

from strayplates.book import inks_by
from strayplates.common import is_tuple, is_within, plain
from strayplates.errors import BadChange, NoStep
from strayplates.job import Job
from strayplates.picture import picture_of
from strayplates.plate import plate_of
from strayplates.words import WHITE, is_word, neighbours


def _is_change(change):
    if not is_tuple(change, 3, 3):
        return False
    return is_within(change[0], -50, 50) and is_within(change[1], -50, 50) and is_word(change[2])


def _judged_changes(changes):
    told = plain(changes)
    for number, change in enumerate(told):
        if not _is_change(change):
            raise BadChange(number)
    return told


def _copied(told):
    return {cell: told[cell] for cell in told}


def _touched(cells):
    """The cells at which the printing can change when these cells get other colours."""
    found = {}
    for cell in cells:
        for other in (cell, *neighbours(cell)):
            found[other] = True
    return found


class Kept:
    """What a bench has when a block is entered, and what was kept for the block around this one."""

    def __init__(self, colours, inks, steps, outer):
        self.colours = colours
        self.inks = inks
        self.steps = steps
        self.outer = outer


class Bench:
    def __init__(self, press, book, page):
        self.press = press
        self.book = book
        self._kept = None
        self._begin(page)

    def _begin(self, page):
        # A call makes new dicts and changes none, so that blocks can keep those that they found.
        self._colours = {(row, column): colour for row, column, colour in page}
        self._inks = {cell: self._inks_at(self._colours, cell) for cell in _touched(self._colours)}
        self._steps = ()

    def _inks_at(self, colours, cell):
        """The inks that the book prints at a cell of the page with these colours."""
        around = [colours.get(other, WHITE) for other in neighbours(cell)]
        return inks_by(self.book.rules, colours.get(cell, WHITE), around)

    @property
    def page(self):
        return picture_of(self._colours)

    @page.setter
    def page(self, value):
        self._begin(value)

    @property
    def result(self):
        """The job that the book makes of the page."""
        inks = self._inks
        return Job(self.press, [plate_of([cell for cell in inks if name in inks[cell]]) for name in self.press.names])

    @property
    def history(self):
        return self._steps

    def recolour(self, *changes):
        """Gives cells other colours, one by one, and tells the changes of the plates."""
        colours = _copied(self._colours)
        steps = []
        for row, column, colour in _judged_changes(changes):
            steps.append((row, column, colours.get((row, column), WHITE), colour))
            colours[(row, column)] = colour
        return self._turn_to(colours, (*self._steps, *steps), steps)

    def back(self, many=1):
        """Takes back so many steps, the last one first, and tells the changes of the plates."""
        if not is_within(many, 0, len(self._steps)):
            raise NoStep(many)
        left = len(self._steps) - many
        undone = self._steps[left:]
        colours = _copied(self._colours)
        for row, column, elder, _ in reversed(list(undone)):
            colours[(row, column)] = elder
        return self._turn_to(colours, self._steps[:left], undone)

    def _turn_to(self, colours, steps, done):
        """Takes over other colours, and the history behind the steps that are done or undone by this."""
        inks = _copied(self._inks)
        found = []
        for cell in _touched([step[:2] for step in done]):
            inks[cell] = self._inks_at(colours, cell)
            elder = self._inks.get(cell, ())
            for number, name in enumerate(self.press.names):
                if (name in elder) != (name in inks[cell]):
                    found.append((number, *cell, name in inks[cell]))
        self._colours = colours
        self._inks = inks
        self._steps = steps
        return tuple(sorted(found))

    def __enter__(self):
        self._kept = Kept(self._colours, self._inks, self._steps, self._kept)
        return self

    def __exit__(self, kind, value, trace):
        kept = self._kept
        self._colours = kept.colours
        self._inks = kept.inks
        self._steps = kept.steps
        self._kept = kept.outer


def restart(bench, page):
    """Sets the page of the bench, and returns its result then."""
    bench.page = page
    return bench.result


def tried(bench, *rows):
    """The results behind each of the rows of changes, which are done one behind the other and then taken back."""
    if not rows:
        return ()
    with bench:
        row = rows[0]
        bench.recolour(*row)
        first = bench.result
        further = rows[1:]
        return (first, *tried(bench, *further))
