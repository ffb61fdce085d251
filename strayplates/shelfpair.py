"""Shelves that are alike: each stack has the same colour on both."""

from strayplates.common import Finding, is_tuple, judge_closed
from strayplates.errors import Unlike
from strayplates.words import WHITE, is_word


class PairWalk:
    """The pairs of colours that one stack has on the one and on the other shelf, up to the first unlike ones."""

    def __init__(self, first, second):
        if first.names != second.names:
            raise Unlike("names")
        self.first = first
        self.second = second
        self.start = (WHITE, WHITE)

    def moves(self, pair):
        if pair[0] != pair[1]:
            # Only a table that is judged can have such a pair, and no pair that follows makes it right.
            return [("", None, None)]
        found = []
        for name in self.first.names:
            follow = (self.first.laid(pair[0], name), self.second.laid(pair[1], name))
            found.append((name, None, follow if follow[0] == follow[1] else None))
        return found

    def has_form(self, row):
        return is_tuple(row, 2, 2) and is_word(row[0]) and is_word(row[1])


class ShelfPair:
    def __init__(self, first, second):
        finding = Finding(PairWalk(first, second), None)
        alike = finding.broken is None
        self.table = tuple(finding.standings) if alike else None
        self.parting = None if alike else tuple([name for name, _ in finding.told_steps()])
        self._rows = tuple(finding.standings) if alike else ()

    def __bool__(self):
        return self.table is not None

    def __len__(self):
        return len(self._rows)

    def __iter__(self):
        return iter(self._rows)


def judge_shelves(first, second, table):
    return judge_closed(PairWalk(first, second), table)
