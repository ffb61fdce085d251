"""Verdicts on all designs of a plan: whether a row claim holds on a band, however the plates wander."""

from strayplates.common import Finding, Walk, is_tuple, is_within, judge_closed
from strayplates.errors import Unlike
from strayplates.plan import BEGINNING
from strayplates.readers import Reader


class DesignWalk(Walk):
    """The standings of a band, a book, a plan and a claim, and the steps between them."""

    def __init__(self, band, book, plan, claim):
        if not all([band.is_colour(colour) for _, tape in plan for colour in tape]):
            raise Unlike("colours")
        self.band = band
        self.book = book
        self._plan = plan
        self.reader = Reader(claim)
        self.start = (BEGINNING, band.beginning, None, self.reader.start)

    def moves(self, standing):
        """For each step in order: the step, its colour, and the standing that follows."""
        band = self.band
        place, behind, lies, state = standing
        found = []
        for further in self._plan.follows(place):
            window = (*behind, self._plan.colour_of(further))
            printings = band.printings(self.book, window)
            for other in band.drifts(lies):
                seen = band.shown(printings, other)
                after = self.reader(state, seen, window[band.right + 1])
                follow = None if after == Reader.BROKEN else (further, window[1:], other, after)
                found.append(((further, other), window[-1], follow))
        return found

    def has_form(self, row):
        if not is_tuple(row, 4, 4):
            return False
        place, behind, lies, state = row
        if not self._plan.is_place(place) or not self.band.is_behind(behind):
            return False
        if lies is not None and not self.band.is_lies(lies):
            return False
        return is_within(state, 0, self.reader.greatest)


class DesignVerdict:
    def __init__(self, band, book, plan, claim):
        finding = Finding(DesignWalk(band, book, plan, claim), 2000)
        steps = finding.told_steps()
        kept = finding.broken is None
        self.table = tuple(finding.standings) if kept else None
        self.story = None if kept else tuple([step for step, _ in steps])
        self.begun = None if kept else plan.names_begun([place for (place, _), _ in steps])
        self.tape = None if kept else tuple([colour for _, colour in steps])
        self._rows = tuple(finding.standings) if kept else ()

    def __bool__(self):
        return self.table is not None

    def __len__(self):
        return len(self._rows)

    def __iter__(self):
        return iter(self._rows)


def judge_designs(band, book, plan, claim, table):
    return judge_closed(DesignWalk(band, book, plan, claim), table)
