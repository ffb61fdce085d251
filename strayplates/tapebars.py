"""Further bars on a band: which of them make a row claim hold for all tapes."""

from strayplates.band import judged_nexts
from strayplates.common import are_integers, least_lots, lots, plain
from strayplates.readers import Reader
from strayplates.tapeverdict import TapeVerdict


class TapeBars:
    def __init__(self, band, book, claim, pairs):
        told = Reader(claim).claim
        menu = judged_nexts(pairs, band.colours, min(4, 8 - len(band.bars)), band.bars)
        rows = []
        for lot in lots(len(menu)):
            bars = [menu[number] for number in lot]
            rows.append((lot, TapeVerdict(band.with_bars(*bars), book, told).story))
        self.table = tuple(rows)
        self._serving = {lot: True for lot, story in rows if story is None}
        self._least = least_lots(list(self._serving))

    def __bool__(self):
        return bool(self._least)

    def __len__(self):
        return len(self._least)

    def __iter__(self):
        return iter(self._least)

    def __contains__(self, x):
        lot = plain(x)
        return are_integers(lot) and lot in self._serving
