"""Books that are alike for all pages of a palette: they print the same at each cell."""

from strayplates.asking import counting_told
from strayplates.book import inks_of
from strayplates.common import are_integers, is_tuple, plain
from strayplates.picture import picture_of
from strayplates.words import WHITE, is_cell, judged_palette

CENTRE = (0, 0)


def reading_tree(books, palette):
    """The tree in which the books, one behind the other, read the cell (0, 0).

    Each row is a pair of a dict of what is told there, and ("ask", cell, follows), or ("counts", the numbers
    of the rules that count, one for each book).
    """
    rows = []
    _grow(rows, books, (WHITE, *palette), {})
    return rows


def _grow(rows, books, shades, told):
    answers = [counting_told(book.rules, told, CENTRE) for book in books]
    needed = [answer[1] for answer in answers if answer[0] == "needs"]
    if not needed:
        rows.append((told, ("counts", [number for _, number in answers])))
        return
    at = len(rows)
    rows.append(None)
    follows = []
    for colour in shades:
        follows.append(len(rows))
        _grow(rows, books, shades, with_cell_told(told, needed[0], colour))
    rows[at] = (told, ("ask", needed[0], tuple(follows)))


def with_cell_told(told, cell, colour):
    """What is told besides a further cell."""
    further = {other: told[other] for other in told}
    further[cell] = colour
    return further


def least_page(pages):
    """The first of the pages with the fewest inked cells, None if there are none."""
    sizes = [len(page) for page in pages]
    return pages[sizes.index(min(sizes))] if pages else None


def are_alike(first, second, palette):
    """Whether two books print the same at each cell of each page of the palette."""
    for _, row in reading_tree((first, second), palette):
        if _told_row(first, second, row)[0] == "apart":
            return False
    return True


def _told_row(first, second, row):
    """The row as it is told of two books."""
    if row[0] == "ask":
        return row
    one, other = row[1]
    inks = (inks_of(first.rules, one), inks_of(second.rules, other))
    return ("same", inks[0]) if inks[0] == inks[1] else ("apart", *inks)


class BookPair:
    def __init__(self, first, second, colours):
        palette = judged_palette(colours)
        tree = reading_tree((first, second), palette)
        rows = [_told_row(first, second, row) for _, row in tree]
        self.parting_page = least_page([picture_of(told) for (told, _), row in zip(tree, rows) if row[0] == "apart"])
        self.table = tuple(rows) if self.parting_page is None else None
        self.inks = None
        if self.parting_page is not None:
            self.inks = (first.inks_at(self.parting_page, CENTRE), second.inks_at(self.parting_page, CENTRE))
        self._rows = () if self.table is None else self.table

    def __bool__(self):
        return self.table is not None

    def __len__(self):
        return len(self._rows)

    def __iter__(self):
        return iter(self._rows)


def _asks(row):
    """Whether it has the form of a row that asks a cell."""
    return is_tuple(row, 3, 3) and row[0] == "ask" and is_cell(row[1]) and are_integers(row[2])


def _told_just_once(tree):
    """Whether each row but the first one is told just once, by a row ahead of it."""
    times = [0 for _ in tree]
    for number, row in enumerate(tree):
        if _asks(row):
            for follow in row[2]:
                if 0 <= follow < len(tree):
                    # A row that is told by one behind it counts as told too often.
                    times[follow] += 1 if number < follow else 2
    return all([many == 1 for many in times[1:]])


def _is_leaf_right(books, told, row):
    if not is_tuple(row, 2, 2) or row[0] != "same":
        return False
    for book in books:
        answer = counting_told(book.rules, told, CENTRE)
        if answer[0] == "needs" or inks_of(book.rules, answer[1]) != row[1]:
            return False
    return True


def judge_books(first, second, colours, table):
    shades = (WHITE, *judged_palette(colours))
    tree = plain(table)
    if not isinstance(tree, tuple) or tree == () or not _told_just_once(tree):
        return -1
    known = {0: {}}
    for number, row in enumerate(tree):
        told = known.pop(number)
        if not _asks(row):
            if not _is_leaf_right((first, second), told, row):
                return number
            continue
        _, cell, follows = row
        ahead = [follow for follow in follows if follow <= number or follow >= len(tree)]
        if cell in told or len(follows) != len(shades) or ahead:
            return number
        for colour, follow in zip(shades, follows):
            known[follow] = with_cell_told(told, cell, colour)
    return None
