"""Whether some hand keeps all sheets good, by what it can know."""

from strayplates.claims import judged_wish
from strayplates.common import is_integer, is_number_of, is_tuple, plain
from strayplates.course import judged_pace
from strayplates.errors import NoLot, NoPart
from strayplates.known import Drifts, LotWalk, is_lot, judged_first, judged_turns
from strayplates.looks import judged_looks, sights_of
from strayplates.verdict import Verdict


def are_good(lot, good):
    """Whether all lies of the lot are good, by a dict of the good ones."""
    return all([number in good for number in lot])


def good_lies(job, page, wish):
    """A dict of the numbers of the lies at which the wish holds."""
    return {number: True for number in Verdict(job, page, wish).good}


def values_of(lots, nexts, good):
    """The values of the lots, told with the numbers of the next ones by parts and turns."""
    values = {number: 0 for number, lot in enumerate(lots) if not are_good(lot, good)}
    left = [number for number in range(len(lots)) if number not in values]
    fresh = list(values)
    many = 0
    while fresh:
        many += 1
        # What is found in a round counts from the next one on only, so that each value is the least.
        fresh = [number for number in left if any([_is_lost(follows, values) for follows in nexts[number]])]
        for number in fresh:
            values[number] = many
        left = [number for number in left if number not in values]
    return [values.get(number, -1) for number in range(len(lots))]


def _is_lost(follows, values):
    """Whether a bad sheet comes whatever turn is made, behind each of which there is one of these lots."""
    return all([number in values for number in follows])


class Keep:
    def __init__(self, known, page, wish):
        told = judged_wish(wish)
        self._known = known
        self._nexts = [known.nexts(number) for number in range(len(known.table))]
        self._values = values_of(known.table, self._nexts, good_lies(known.job, page, told))
        self.table = tuple(zip(known.table, self._values))

    def __bool__(self):
        return bool(self._values[0] == -1)

    def __len__(self):
        return len(self.table)

    def __iter__(self):
        return iter(self.table)

    def value(self, number):
        """The value of the lot with this number."""
        if not is_number_of(number, self.table):
            raise NoLot(number)
        return self._values[number]

    def plan(self, number, part):
        """The number of the first turn by which the next lot is kept, behind this part of a kept lot."""
        value = self.value(number)
        if not is_number_of(part, self._nexts[number]):
            raise NoPart(part)
        if value != -1:
            return None
        return [self._values[follow] for follow in self._nexts[number][part]].index(-1)

    def attack(self, number):
        """The number of the first part behind which each turn leads to a lot with a lower value."""
        value = self.value(number)
        if value < 1:
            return None
        lower = [all([0 <= self._values[follow] < value for follow in follows]) for follows in self._nexts[number]]
        return lower.index(True)


def _has_form(row, press):
    """Whether it is a pair of a lot of numbers of lies, and -1 or a number from 0 on."""
    return is_tuple(row, 2, 2) and is_lot(row[0], press) and is_integer(row[1]) and row[1] >= -1


def _told_value(nexts, known):
    """The value of a lot by those that are known of the next ones; None if one of these is not known."""
    parts = []
    for follows in nexts:
        if not all([follow in known for follow in follows]):
            return None
        values = [known[follow] for follow in follows]
        parts.append(-1 if -1 in values else max(values))
    bad = [value for value in parts if value != -1]
    return min(bad) + 1 if bad else -1


def judge_keep(job, looks, turns, page, wish, table, *, pace=1, first=(0,)):
    press = job.press
    told_looks = judged_looks(looks, 6)
    told_turns = judged_turns(turns, press)
    good = good_lies(job, page, wish)
    told_pace = judged_pace(pace)
    start = judged_first(first, press)
    rows = plain(table)
    if not isinstance(rows, tuple) or rows == () or not is_tuple(rows[0], 2, 2):
        return -1
    # True and False are equal to 1 and 0, so the form is judged before the lot is compared.
    if not is_lot(rows[0][0], press) or rows[0][0] != start:
        return -1
    formed = [_has_form(row, press) for row in rows]
    known = {}
    for row, fit in zip(rows, formed):
        if fit:
            known.setdefault(row[0], row[1])
    walk = LotWalk(start, sights_of(job, told_looks), Drifts(press, told_turns, told_pace))
    for number, row in enumerate(rows):
        if not formed[number]:
            return number
        value = _told_value(walk.nexts(row[0]), known) if are_good(row[0], good) else 0
        if row[1] != value:
            return number
    return None
