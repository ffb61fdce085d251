"""Verdicts on all runs of a course: whether all their sheets are printed at lies that are good for a wish."""

from strayplates.common import Finding, Walk, is_number_of, judge_closed
from strayplates.verdict import Verdict


class RunWalk(Walk):
    """The lies that come in the runs of a course."""

    def __init__(self, course, good):
        self.start = course.start
        self._course = course
        self._good = {number: True for number in good}

    def is_good(self, number):
        return number in self._good

    def follows(self, number):
        return self._course.follows(number)

    def moves(self, number):
        return [(other, None, other) for other in self.follows(number)]

    def has_form(self, row):
        return is_number_of(row, self._course.job.press.lies)


class GoodWalk(RunWalk):
    """The same, up to the first lie that is not good."""

    def fails(self, number):
        return not self.is_good(number)


def _good_lies(course, page, wish):
    return Verdict(course.job, page, wish).good


class RunVerdict:
    def __init__(self, course, page, wish):
        walk = GoodWalk(course, _good_lies(course, page, wish))
        self.lot = None
        self.run = (walk.start,)
        if not walk.fails(walk.start):
            finding = Finding(walk, None)
            if finding.broken is None:
                self.lot = tuple(finding.standings)
                self.run = None
            else:
                self.run = (walk.start, *[number for number, _ in finding.told_steps()])
        self._rows = () if self.lot is None else self.lot

    def __bool__(self):
        return self.run is None

    def __len__(self):
        return len(self._rows)

    def __iter__(self):
        return iter(self._rows)


def judge_run(course, page, wish, lot):
    """Whether the lot is closed: all runs stay in it, at good lies."""
    return judge_closed(GoodWalk(course, _good_lies(course, page, wish)), lot)


def waste(course, page, wish):
    """The greatest number of sheets at lies that are not good, one behind the other; None if there is no greatest."""
    walk = RunWalk(course, _good_lies(course, page, wish))
    left = [number for number in Finding(walk, None).standings if not walk.is_good(number)]
    follows = {number: walk.follows(number) for number in left}
    many = 0
    while left:
        # Those that are left behind so many steps begin rows of bad sheets that are longer than this.
        longer = [number for number in left if any([other in left for other in follows[number]])]
        if len(longer) == len(left):
            return None
        left = longer
        many += 1
    return many
