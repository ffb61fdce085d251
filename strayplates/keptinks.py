"""The least lots of inks whose plates, when they are kept, tell the tape."""

from strayplates.common import are_integers, least_lots, lots, plain
from strayplates.tells import Tells, judged_kept
from strayplates.words import judged_palette


class KeptInks:
    def __init__(self, book, colours, inks):
        palette = judged_palette(colours)
        menu = judged_kept(inks)
        rows = []
        for lot in lots(len(menu)):
            rows.append((lot, Tells(book, palette, [menu[number] for number in lot]).tapes))
        self.table = tuple(rows)
        self._telling = {lot: True for lot, tapes in rows if tapes is None}
        self._least = least_lots(list(self._telling))

    def __bool__(self):
        return self.table[-1][1] is None

    def __len__(self):
        return len(self._least)

    def __iter__(self):
        return iter(self._least)

    def __contains__(self, x):
        lot = plain(x)
        return are_integers(lot) and lot in self._telling
