"""Plans that can be told back: no two different designs have the same tape."""

from strayplates.common import Finding, Walk, is_tuple, judge_closed
from strayplates.plan import BEGINNING, END

# What is found when two different designs, with the same tape, have been gone through to their ends.
PARTED = ((-2, 0), (-2, 0), True)


class SideBySide(Walk):
    """The standings of two designs of a plan that are gone through side by side, with the same colours."""

    def __init__(self, plan):
        self._plan = plan
        self.start = (BEGINNING, BEGINNING, False)

    def fails(self, standing):
        return standing == PARTED

    def moves(self, standing):
        """For each pair of next places, as tuples in order: the pair, nothing, and the standing that follows."""
        plan = self._plan
        place, other, parted = standing
        if END in (place, other):
            return []
        found = []
        for one in plan.follows(place):
            for two in plan.follows(other):
                if (one == END) == (two == END) and plan.colour_of(one) == plan.colour_of(two):
                    found.append(((one, two), None, (one, two, parted or one != two)))
        return found

    def has_form(self, row):
        if not is_tuple(row, 3, 3) or not isinstance(row[2], bool):
            return False
        return self._plan.is_place(row[0]) and self._plan.is_place(row[1])


class ToldBack:
    def __init__(self, plan):
        finding = Finding(SideBySide(plan), None)
        pairs = [step for step, _ in finding.told_steps()]
        told = finding.broken is None
        self.table = tuple(finding.standings) if told else None
        self.pair = None if told else tuple([plan.names_begun([pair[at] for pair in pairs]) for at in (0, 1)])
        self._rows = tuple(finding.standings) if told else ()

    def __bool__(self):
        return self.table is not None

    def __len__(self):
        return len(self._rows)

    def __iter__(self):
        return iter(self._rows)


def judge_told_back(plan, table):
    return judge_closed(SideBySide(plan), table, PARTED)
