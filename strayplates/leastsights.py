"""The least lots of looks with which some hand keeps all sheets good."""

from strayplates.common import are_integers, least_lots, lots, plain
from strayplates.course import judged_pace
from strayplates.keep import good_lies, values_of
from strayplates.known import Drifts, Lots, LotWalk, judged_first, judged_turns
from strayplates.looks import judged_looks, sights_of


class LeastSights:
    def __init__(self, job, looks, turns, page, wish, *, pace=1, first=(0,)):
        menu = judged_looks(looks, 4)
        told_turns = judged_turns(turns, job.press)
        good = good_lies(job, page, wish)
        told_pace = judged_pace(pace)
        start = judged_first(first, job.press)
        drifts = Drifts(job.press, told_turns, told_pace)
        sights = sights_of(job, menu)
        rows = []
        for lot in lots(len(menu)):
            seen = [tuple([sight[number] for number in lot]) for sight in sights]
            found = Lots(LotWalk(start, seen, drifts))
            rows.append((lot, values_of(found.lots, found.leads, good)[0]))
        self.table = tuple(rows)
        self._enough = {lot: True for lot, value in rows if value == -1}
        self._least = least_lots(list(self._enough))

    def __bool__(self):
        return bool(self.table[-1][1] == -1)

    def __len__(self):
        return len(self._least)

    def __iter__(self):
        return iter(self._least)

    def __contains__(self, x):
        lot = plain(x)
        return are_integers(lot) and lot in self._enough
