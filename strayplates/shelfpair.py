"""Shelves that are alike: each stack has the same colour on both."""

from strayplates.common import Finding, Walk, is_tuple, plain
from strayplates.errors import Unlike
from strayplates.stacks import laid_over
from strayplates.words import WHITE, is_word


class PairWalk(Walk):
    """The pairs of colours that one stack has on the one and on the other shelf, up to the first unlike ones."""

    def __init__(self, first, second):
        if first.names != second.names:
            raise Unlike("names")
        self._first = first
        self._second = second
        self.start = (WHITE, WHITE)

    def follows(self, pair):
        """The pairs to which the inks lead."""
        return list(zip(laid_over(self._first, pair[0]), laid_over(self._second, pair[1])))

    def moves(self, pair):
        return [(name, None, follow if follow[0] == follow[1] else None)
                for name, follow in zip(self._first.names, self.follows(pair))]


class ShelfPair:
    def __init__(self, first, second):
        finding = Finding(PairWalk(first, second), None)
        alike = finding.broken is None
        self.table = tuple(finding.standings) if alike else None
        self.parting = None if alike else tuple([name for name, _ in finding.told_steps()])
        self._rows = tuple(finding.standings) if alike else ()

    def __bool__(self):
        return self.table is not None

    def __len__(self):
        return len(self._rows)

    def __iter__(self):
        return iter(self._rows)


def _is_pair_of_colours(row):
    return is_tuple(row, 2, 2) and is_word(row[0]) and is_word(row[1])


def judge_shelves(first, second, table):
    walk = PairWalk(first, second)
    rows = plain(table)
    if not isinstance(rows, tuple):
        return -1
    known = {row: True for row in rows if _is_pair_of_colours(row)}
    if walk.start not in known:
        return -1
    for number, row in enumerate(rows):
        if not _is_pair_of_colours(row) or row[0] != row[1]:
            return number
        if not all([follow in known for follow in walk.follows(row)]):
            return number
    return None
