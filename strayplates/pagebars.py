"""Bars that are told to designers: which of them make a local claim hold for all pages."""

from strayplates.cases import Cases, judged_bars
from strayplates.claims import judged_local
from strayplates.common import are_integers, least_lots, lots, plain
from strayplates.words import judged_palette


class PageBars:
    def __init__(self, press, book, colours, claim, pairs):
        palette = judged_palette(colours)
        told = judged_local(claim)
        menu = judged_bars(pairs, palette, 4)
        rows = []
        for lot in lots(len(menu)):
            cases = Cases(press, book, palette, told, bars=[menu[number] for number in lot])
            rows.append((lot, cases.broken_page))
        self.table = tuple(rows)
        self._serving = {lot: True for lot, page in rows if page is None}
        self._least = least_lots(list(self._serving))

    def __bool__(self):
        return bool(self._least)

    def __len__(self):
        return len(self._least)

    def __iter__(self):
        return iter(self._least)

    def __contains__(self, x):
        lot = plain(x)
        return are_integers(lot) and lot in self._serving
