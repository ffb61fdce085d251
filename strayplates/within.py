"""Plans within other plans: the tape of each design of the one is the tape of a design of the other one."""

from strayplates.common import Finding, Walk, is_ascending, is_tuple, judge_closed
from strayplates.plan import BEGINNING, END


class PlacesWalk(Walk):
    """The places of a plan, each with all places of another plan to which the same colours lead."""

    def __init__(self, first, second):
        self.first = first
        self.second = second
        self.start = (BEGINNING, (BEGINNING,))

    def fails(self, standing):
        """Whether the first plan can end there, and the second one cannot."""
        place, others = standing
        return self.first.can_end(place) and not any([self.second.can_end(other) for other in others])

    def moves(self, standing):
        """For each next place of the first plan but the end: the place, nothing, and the standing that follows."""
        place, others = standing
        nexts = sorted(set([further for other in others for further in self.second.follows(other) if further != END]))
        found = []
        for further in self.first.follows(place):
            if further != END:
                colour = self.first.colour_of(further)
                same = [other for other in nexts if self.second.colour_of(other) == colour]
                found.append((further, None, (further, tuple(same))))
        return found

    def has_form(self, row):
        if not is_tuple(row, 2, 2) or not self.first.is_place(row[0]) or not isinstance(row[1], tuple):
            return False
        return all([self.second.is_place(other) for other in row[1]]) and is_ascending(row[1])


class Within:
    def __init__(self, first, second):
        finding = Finding(PlacesWalk(first, second), 2000)
        within = finding.broken is None
        self.table = tuple(finding.standings) if within else None
        self.design = None if within else first.names_begun([place for place, _ in finding.told_steps()])
        self._rows = tuple(finding.standings) if within else ()

    def __bool__(self):
        return self.table is not None

    def __len__(self):
        return len(self._rows)

    def __iter__(self):
        return iter(self._rows)


def judge_within(first, second, table):
    return judge_closed(PlacesWalk(first, second), table)


def same_tapes(first, second):
    """Whether each plan is within the other one."""
    return bool(Within(first, second)) and bool(Within(second, first))
