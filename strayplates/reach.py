"""Where the printing of an ink can change when one cell of a page gets another colour."""

from strayplates.bookpair import CENTRE, least_page, with_cell_told
from strayplates.common import plain
from strayplates.picture import picture_of
from strayplates.words import WHITE, is_cell, judged_palette, neighbours


def _colourings(cells, shades):
    """All dicts that give each of the cells one of the shades."""
    found = [{}]
    for cell in cells:
        found = [with_cell_told(told, cell, colour) for told in found for colour in shades]
    return found


def _differing(book, name, cell, shades):
    """Two pages that differ in (0, 0) alone, of which just the first has the ink printed at the cell, or None."""
    # Only the cell and its neighbours tell what is printed there, so all else can be white.
    beside = [other for other in (cell, *neighbours(cell)) if other != CENTRE]
    least = None
    for told in _colourings(beside, shades):
        pages = [picture_of(with_cell_told(told, CENTRE, colour)) for colour in shades]
        printed = [name in book.inks_at(page, cell) for page in pages]
        if any(printed) and not all(printed):
            kinds = [[page for page, fit in zip(pages, printed) if fit == kind] for kind in (True, False)]
            pair = (least_page(kinds[0]), least_page(kinds[1]))
            if least is None or len(pair[0]) + len(pair[1]) < len(least[0]) + len(least[1]):
                least = pair
    return least


class Reach:
    def __init__(self, book, name, colours):
        shades = (WHITE, *judged_palette(colours))
        cells = (CENTRE, *neighbours(CENTRE))
        self.table = tuple([(cell, _differing(book, name, cell, shades)) for cell in cells])
        self._reached = {cell: True for cell, pages in self.table if pages is not None}

    def __len__(self):
        return len(self.table)

    def __iter__(self):
        return iter(self.table)

    def __contains__(self, x):
        return is_cell(x) and plain(x) in self._reached
