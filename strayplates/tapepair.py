"""Books that are alike on a band: both show the same at each column, however the plates wander."""

from strayplates.common import Finding, Walk, is_tuple, judge_closed


class BooksWalk(Walk):
    """The standings of a band and two books, up to a step with which they show unlike colours."""

    def __init__(self, band, first, second):
        self.band = band
        self.books = (first, second)
        self.start = (band.beginning, None)

    def moves(self, standing):
        """For each step in order: the step, the colours that are seen with it, and the standing that follows."""
        band = self.band
        behind, lies = standing
        found = []
        for colour in band.nexts(behind):
            window = (*behind, colour)
            printings = [band.printings(book, window) for book in self.books]
            for other in band.drifts(lies):
                seen = tuple([band.shown(printed, other) for printed in printings])
                follow = (window[1:], other) if seen[0] == seen[1] else None
                found.append(((colour, other), seen, follow))
        return found

    def has_form(self, row):
        if not is_tuple(row, 2, 2) or not self.band.is_behind(row[0]):
            return False
        return row[1] is None or self.band.is_lies(row[1])


class TapePair:
    def __init__(self, band, first, second):
        finding = Finding(BooksWalk(band, first, second), 2000)
        steps = finding.told_steps()
        alike = finding.broken is None
        self.table = tuple(finding.standings) if alike else None
        self.story = None if alike else tuple([step for step, _ in steps])
        self.seen_pair = None if alike else steps[-1][1]
        self._rows = tuple(finding.standings) if alike else ()

    def __bool__(self):
        return self.table is not None

    def __len__(self):
        return len(self._rows)

    def __iter__(self):
        return iter(self._rows)


def judge_tape_pair(band, first, second, table):
    return judge_closed(BooksWalk(band, first, second), table)
