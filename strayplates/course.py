"""Courses: the runs of sheets that can be printed from one job, while a hand turns the press."""

from strayplates.common import is_integer, is_number_of, is_within, plain
from strayplates.errors import BadPace, BadRun, NoLie, Unlike
from strayplates.hand import followers, turned_lie


def judged_pace(pace):
    if not is_within(pace, 0, 2):
        raise BadPace(pace)
    return pace


class Course:
    def __init__(self, job, hand, *, pace=1, start=0):
        if job.press != hand.press:
            raise Unlike("press")
        self.job = job
        self.hand = hand
        self.pace = judged_pace(pace)
        if not is_number_of(start, job.press.lies):
            raise NoLie(start)
        self.start = start

    def turned(self, number):
        """The number of the lie behind the hand's turn."""
        turn = self.hand(self.hand.sight(self.job, number))
        return turned_lie(self.job.press, number, turn)

    def follows(self, number):
        """The numbers of the lies at which the next sheet can be printed."""
        return followers(self.job.press, self.turned(number), self.pace)

    def _first_wrong(self, told):
        """The place of the first thing that is not the start, or cannot follow the one ahead of it, or None."""
        allowed = (self.start,)
        for place, number in enumerate(told):
            if not is_integer(number) or number not in allowed:
                return place
            allowed = self.follows(number)
        return None

    def is_run(self, numbers):
        told = plain(numbers)
        return isinstance(told, tuple) and told != () and self._first_wrong(told) is None

    def sheets(self, numbers):
        """The pictures of the sheets of a run."""
        wrong = self._first_wrong(numbers)
        for number in numbers[:wrong]:
            yield self.job.shown(self.job.press.lies[number])
        if wrong is not None:
            raise BadRun(wrong)
