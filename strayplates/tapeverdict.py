"""Verdicts on all tapes of a band: whether a row claim holds, however the plates wander."""

from strayplates.common import Finding, Walk, is_tuple, is_within, judge_closed
from strayplates.readers import Reader


class TapeWalk(Walk):
    """The standings of a band, a book and a claim, and the steps between them."""

    def __init__(self, band, book, claim):
        self.band = band
        self.book = book
        self.reader = Reader(claim)
        self.start = (band.beginning, None, self.reader.start)

    def moves(self, standing):
        """For each step in order: the step, the colour that is seen with it, and the standing that follows."""
        band = self.band
        behind, lies, state = standing
        found = []
        for colour in band.nexts(behind):
            window = (*behind, colour)
            printings = band.printings(self.book, window)
            for other in band.drifts(lies):
                seen = band.shown(printings, other)
                # The column that is seen stands so far behind the oldest colour of the window.
                after = self.reader(state, seen, window[band.right + 1])
                follow = None if after == Reader.BROKEN else (window[1:], other, after)
                found.append(((colour, other), seen, follow))
        return found

    def has_form(self, row):
        if not is_tuple(row, 3, 3):
            return False
        behind, lies, state = row
        if not self.band.is_behind(behind) or not is_within(state, 0, self.reader.greatest):
            return False
        return lies is None or self.band.is_lies(lies)


class TapeVerdict:
    def __init__(self, band, book, claim):
        finding = Finding(TapeWalk(band, book, claim), 2000)
        steps = finding.told_steps()
        kept = finding.broken is None
        self.table = tuple(finding.standings) if kept else None
        self.story = None if kept else tuple([step for step, _ in steps])
        self.tape = None if kept else tuple([step[0] for step, _ in steps])
        self.seen_colours = None if kept else tuple([seen for _, seen in steps])
        self._rows = tuple(finding.standings) if kept else ()

    def __bool__(self):
        return self.table is not None

    def __len__(self):
        return len(self._rows)

    def __iter__(self):
        return iter(self._rows)


def judge_tapes(band, book, claim, table):
    return judge_closed(TapeWalk(band, book, claim), table)
