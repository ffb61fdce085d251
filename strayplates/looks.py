"""Looks at sheets that tell lies apart."""

from strayplates.common import are_integers, is_number_of, is_tuple, lots, plain
from strayplates.errors import BadAims, BadLooks, NoLie
from strayplates.words import is_cell


def judged_looks(cells, most):
    """The looks as a tuple of different cells."""
    told = plain(cells)
    if not is_tuple(told, 0, most):
        raise BadLooks(-1)
    for number, cell in enumerate(told):
        if not is_cell(cell) or cell in told[:number]:
            raise BadLooks(number)
    return told


def sights_of(job, cells):
    """For each lie in order, the tuple of the colours that the job shows there at these cells."""
    pictures = [job.shown(lie) for lie in job.press.lies]
    return [tuple([picture[cell] for cell in cells]) for picture in pictures]


def _judged_aims(aims, many):
    """The aim of each of so many lies; without aims, each lie has its own."""
    if aims is None:
        return tuple(range(many))
    told = plain(aims)
    if not are_integers(told) or len(told) != many:
        raise BadAims(aims)
    return told


def _first_untold(sights, aims, lot):
    """The first pair of lies that have unlike aims, and look alike at the looks of the lot, or None."""
    firsts = {}
    pairs = []
    for number, sight in enumerate(sights):
        seen = tuple([sight[k] for k in lot])
        first = firsts.setdefault(seen, number)
        # Of lies that look alike, the first one is in the first pair, if some of them have unlike aims.
        if aims[first] != aims[number]:
            pairs.append((first, number))
    return min(pairs, default=None)


class Looks:
    def __init__(self, job, cells, aims=None):
        told = judged_looks(cells, 8)
        goals = _judged_aims(aims, len(job.press.lies))
        self._sights = sights_of(job, told)
        self.lot = None
        rows = []
        for lot in lots(len(told)):
            if self.lot is None:
                pair = _first_untold(self._sights, goals, lot)
                rows.append((lot, pair))
                if pair is None:
                    self.lot = lot
        self.table = tuple([row for row in rows if self.lot is None or len(row[0]) < len(self.lot)])

    def __bool__(self):
        return self.lot is not None

    def __len__(self):
        return len(self.table)

    def __iter__(self):
        return iter(self.table)

    def sight(self, number):
        """The colours that are seen at all looks at the lie with this number."""
        if not is_number_of(number, self._sights):
            raise NoLie(number)
        return self._sights[number]
