"""Traps: cells that are added to plates so that a wish holds at all lies."""

from strayplates.claims import first_breach, judged_wish
from strayplates.common import is_ascending, is_number_of, is_tuple, is_within, lots, plain
from strayplates.errors import BadLot, BadMenu, BadTrap, NoColour, NoUnit
from strayplates.job import Job
from strayplates.plate import plate_of
from strayplates.words import is_word, neighbours


def spread(job, page, number, colour):
    """The additions for a unit of all cells of this colour that lie beside its plate."""
    if not is_number_of(number, job.plates):
        raise NoUnit(number)
    if not is_word(colour):
        raise NoColour(colour)
    plate = job.plates[number]
    beside = sorted(set([other for cell in plate.cells for other in neighbours(cell)]))
    return tuple([(number, *cell) for cell in beside if cell not in plate and page[cell] == colour])


def _is_addition(addition, job):
    if not is_tuple(addition, 3, 3) or not is_number_of(addition[0], job.plates):
        return False
    number, row, column = addition
    return is_within(row, -50, 50) and is_within(column, -50, 50) and (row, column) not in job.plates[number]


def _judged_menu(menu, job):
    told = plain(menu)
    if not is_tuple(told, 0, 8):
        raise BadMenu(-1)
    for number, addition in enumerate(told):
        if not _is_addition(addition, job) or (number > 0 and told[number - 1] >= addition):
            raise BadMenu(number)
    return told


class Trials:
    """All traps of a menu, in order, and at which lies they serve."""

    def __init__(self, job, page, wish, menu):
        self._wish = judged_wish(wish)
        told = _judged_menu(menu, job)
        self._page = page
        self._lies = job.press.lies
        self.traps = [tuple([told[k] for k in lot]) for lot in lots(len(told))]
        self.jobs = {trap: _with_additions(job, trap) for trap in self.traps}
        # Many traps show the same picture at a lie, and what the wish says of a picture is asked once.
        self._held = {}

    def serves(self, trap, number):
        """Whether the trap serves at the lie with this number."""
        job = self.jobs[trap]
        picture = job.shown(self._lies[number])
        if picture.cells not in self._held:
            self._held[picture.cells] = first_breach(self._wish, self._page, picture) is None
        return self._held[picture.cells]

    def first_unserved(self, trap):
        """The number of the first lie at which the trap does not serve, or None."""
        for number in range(len(self._lies)):
            if not self.serves(trap, number):
                return number
        return None

    def unserved(self, trap):
        """The numbers of all lies at which the trap does not serve."""
        return tuple([number for number in range(len(self._lies)) if not self.serves(trap, number)])

    def is_lie(self, thing):
        """Whether the thing is the number of a lie."""
        return is_number_of(thing, self._lies)

    def is_trap(self, thing):
        """Whether the thing, with tuples in the place of lists, is a trap of the menu."""
        if not isinstance(thing, tuple) or not all([is_tuple(part, 3, 3) for part in thing]):
            return False
        # True and False are equal to 1 and 0, so the form is judged before the trap is looked up.
        return all([is_within(number, -50, 50) for part in thing for number in part]) and thing in self.jobs


def _with_additions(job, trap):
    """The job with these additions to its plates."""
    plates = []
    for number, plate in enumerate(job.plates):
        plates.append(plate + plate_of([(row, column) for unit, row, column in trap if unit == number]))
    return Job(job.press, plates)


def _apart(rows):
    """As many of the rows as are found, the shortest ones first, of which no two have a number in common."""
    met = {}
    apart = []
    for _, row in sorted([(len(row), row) for row in rows]):
        if not any([k in met for k in row]):
            apart.append(row)
            for k in row:
                met[k] = True
    return apart


def _can_meet(rows, many):
    """Whether some lot of so many numbers has one of each of the rows."""
    apart = _apart(rows)
    if len(apart) > many:
        return False
    if len(apart) == len(rows):
        return True
    for k in apart[0]:
        if _can_meet([row for row in rows if k not in row], many - 1):
            return True
    return False


def _first_meeting(rows):
    """The first of the smallest lots that have one number of each of the rows; no row is empty."""
    # A row that has all numbers of another one is met by whatever meets that one.
    left = [row for row in rows if not any([len(other) < len(row) and _is_part(other, row) for other in rows])]
    many = len(_apart(left))
    while not _can_meet(left, many):
        many += 1
    lot = ()
    for number in sorted(set([k for row in left for k in row])):
        # What comes behind this number is left to meet the rows that it does not.
        further = [_above(row, number) for row in left if number not in row]
        if _can_meet(further, many - len(lot) - 1):
            lot = (*lot, number)
            left = further
        else:
            left = [_above(row, number) for row in left]
    return lot


def _above(row, number):
    return tuple([k for k in row if k > number])


def _is_part(row, other):
    return all([k in other for k in row])


class Traps:
    def __init__(self, job, page, wish, menu):
        self._trials = Trials(job, page, wish, menu)
        self.table = tuple([(trap, self._trials.first_unserved(trap)) for trap in self._trials.traps])
        serving = [trap for trap, number in self.table if number is None]
        self.trap = serving[0] if serving else None
        self.needed = ()
        self.quarrel = None
        if serving:
            self.needed = tuple([part for part in serving[0] if all([part in trap for trap in serving])])
        else:
            unserved = [self._trials.unserved(trap) for trap in self._trials.traps]
            self.quarrel = _first_meeting(sorted(set(unserved)))

    def __bool__(self):
        return self.trap is not None

    def __len__(self):
        return len(self.table)

    def __iter__(self):
        return iter(self.table)

    def served(self, lies):
        """The first of the smallest traps that serve at each of the lies, told by their numbers, or None."""
        told = plain(lies)
        trials = self._trials
        if not isinstance(told, tuple) or not all([trials.is_lie(part) for part in told]) or not is_ascending(told):
            raise BadLot(lies)
        for trap in trials.traps:
            if all([trials.serves(trap, number) for number in told]):
                return trap
        return None

    def done(self, trap):
        """The job with the trap."""
        told = plain(trap)
        if not self._trials.is_trap(told):
            raise BadTrap(trap)
        return self._trials.jobs[told]


def judge_traps(job, page, wish, menu, table):
    """Whether a table of pairs of a trap and the number of a lie shows that no trap serves at all lies."""
    trials = Trials(job, page, wish, menu)
    rows = plain(table)
    if not isinstance(rows, tuple):
        return -1
    formed = [is_tuple(row, 2, 2) and trials.is_trap(row[0]) and trials.is_lie(row[1]) for row in rows]
    known = {row[0]: True for row, fit in zip(rows, formed) if fit}
    if len(known) < len(trials.traps):
        return -1
    for number, row in enumerate(rows):
        if not formed[number] or trials.serves(row[0], row[1]):
            return number
    return None
