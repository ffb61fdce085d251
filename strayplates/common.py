"""What several modules share: kinds of things, tuples for lists, lots, and the order of finding."""

from strayplates.errors import TooMany


def plain(thing):
    """The thing with a tuple in the place of each list, at any depth."""
    if isinstance(thing, (list, tuple)):
        return tuple([plain(part) for part in thing])
    return thing


def is_integer(thing):
    return isinstance(thing, int) and not isinstance(thing, bool)


def is_within(thing, low, high):
    """Whether the thing is an integer from low to high."""
    return is_integer(thing) and low <= thing <= high


def is_number_of(thing, row):
    """Whether the thing is the number of one of the things of a row."""
    return is_within(thing, 0, len(row) - 1)


def is_tuple(thing, least, most):
    """Whether the thing is a tuple of so many things."""
    return isinstance(thing, tuple) and least <= len(thing) <= most


def is_ascending(things):
    return all([things[k] < things[k + 1] for k in range(len(things) - 1)])


def are_integers(thing):
    """Whether the thing is a tuple of integers."""
    return isinstance(thing, tuple) and all([is_integer(part) for part in thing])


def lots(many):
    """All lots of the numbers below many, in order."""
    found = [()]
    level = [()]
    for _ in range(many):
        level = [lot + (k,) for lot in level for k in range(many) if lot == () or lot[-1] < k]
        found = found + level
    return found


def least_lots(serving):
    """Those of the lots, told in order, of which no part is among them."""
    least = []
    for lot in serving:
        if not any([all([k in lot for k in part]) for part in least]):
            least.append(lot)
    return tuple(least)


class Finding:
    """The standings of a walk in the order of finding, up to the first step that breaks its claim.

    A walk has the standing `start`, and for each standing `moves`: triples of a step, what is told of
    it, and the standing that follows, None if the step breaks the claim.
    """

    def __init__(self, walk, most):
        self.standings = [walk.start]
        self.broken = None
        self._ahead = {walk.start: None}
        at = 0
        while self.broken is None and at < len(self.standings):
            self._expand(walk, self.standings[at], most)
            at += 1

    def _expand(self, walk, standing, most):
        for step, told, follow in walk.moves(standing):
            if follow is None:
                self.broken = (standing, step, told)
                return
            if follow not in self._ahead:
                if len(self.standings) == most:
                    raise TooMany("standing")
                self._ahead[follow] = (standing, step, told)
                self.standings.append(follow)

    def told_steps(self):
        """The pairs of a step and what is told of it, up to the step that breaks the claim."""
        back = []
        link = self.broken
        while link is not None:
            standing, step, told = link
            back.append((step, told))
            link = self._ahead[standing]
        return back[::-1]


def judge_closed(walk, table):
    """None if the table of standings is closed, -1 or the number of the first row that is not right."""
    rows = plain(table)
    if not isinstance(rows, tuple):
        return -1
    formed = [walk.has_form(row) for row in rows]
    known = {row: True for row, fit in zip(rows, formed) if fit}
    if walk.start not in known:
        return -1
    for number, row in enumerate(rows):
        if not formed[number] or not _is_closed(walk, row, known):
            return number
    return None


def _is_closed(walk, row, known):
    for _, _, follow in walk.moves(row):
        if follow not in known:
            return False
    return True
