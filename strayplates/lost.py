"""Lost plates: what sheets that were kept tell of the plate of one unit, when the others are known."""

from strayplates.common import is_number_of, is_tuple, lots, plain
from strayplates.errors import BadPulls, NoCell, NoUnit, TooMany
from strayplates.picture import Picture
from strayplates.plate import plate_of
from strayplates.press import shift_in
from strayplates.words import is_cell


def judged_unit(number, press):
    if not is_number_of(number, press.units):
        raise NoUnit(number)
    return number


def told_by_lots(press, number):
    """For each lot of the other units, the colours of its stack with the ink of this unit, and without it."""
    others = [other for other in range(len(press.units)) if other != number]
    rows = []
    for places in lots(len(others)):
        lot = tuple([others[place] for place in places])
        inked = press.shelf.stack([press.names[other] for other in sorted([*lot, number])])
        bare = press.shelf.stack([press.names[other] for other in lot])
        rows.append((lot, inked, bare))
    return tuple(rows)


class Reading:
    """What a pull, printed at a lie, says of a plate: the cells it must have, and those it may have, but no others."""

    def __init__(self, must, may):
        self.must = must
        self.may = may

    def allows(self, cell):
        return cell in self.must or cell in self.may

    def fits(self, plate):
        return all([cell in plate for cell in self.must]) and all([self.allows(cell) for cell in plate.cells])


class Others:
    """The units of a job beside the one whose plate is lost."""

    def __init__(self, job, number):
        self._job = job
        self._number = number
        self._colours = {lot: (inked, bare) for lot, inked, bare in told_by_lots(job.press, number)}

    def _printing(self, lie):
        """For each cell of the sheet that other units print, the tuple of their numbers."""
        found = {}
        for other, (unit, plate) in enumerate(zip(self._job.press.units, self._job.plates)):
            if other != self._number:
                rows, columns = shift_in(unit, lie)
                for row, column in plate.cells:
                    cell = (row + rows, column + columns)
                    found[cell] = (*found.get(cell, ()), other)
        return found

    def reading(self, lie, pull):
        """What the pull says of the lost plate if it was printed at the lie; None if then no plate fits."""
        printing = self._printing(lie)
        rows, columns = shift_in(self._job.press.units[self._number], lie)
        must, may = {}, {}
        # Elsewhere paper was left white, and no ink is white on paper, so the plate must not have other cells.
        for cell in sorted(set([*printing, *[(row, column) for row, column, _ in pull.cells]])):
            inked, bare = self._colours[printing.get(cell, ())]
            back = (cell[0] - rows, cell[1] - columns)
            if pull[cell] not in (inked, bare):
                return None
            if inked == bare:
                may[back] = True
            elif pull[cell] == inked:
                must[back] = True
        return Reading(must, may)


def _judged_pulls(pulls):
    told = plain(pulls)
    if not is_tuple(told, 1, 3):
        raise BadPulls(-1)
    for number, pull in enumerate(told):
        if not isinstance(pull, Picture):
            raise BadPulls(number)
    return told


def _judge_choices(lies, pulls):
    """Raises an error if there are too many choices of a lie for each pull."""
    many = 1
    for _ in pulls:
        many = many * len(lies)
    if many > 2000:
        raise TooMany("choice")


def _choices(readings):
    """All choices of a possible reading for each pull."""
    choices = [()]
    for pull in readings:
        possible = [number for number, reading in enumerate(pull) if reading is not None]
        choices = [(*choice, number) for choice in choices for number in possible]
    return choices


class Lost:
    def __init__(self, job, number, pulls):
        others = Others(job, judged_unit(number, job.press))
        told = _judged_pulls(pulls)
        _judge_choices(job.press.lies, told)
        self._readings = [[others.reading(lie, pull) for lie in job.press.lies] for pull in told]
        fitting = []
        some = {}
        for choice in _choices(self._readings):
            must, can = self._cells(choice)
            if all([cell in can for cell in must]):
                fitting.append((choice, must))
                for cell in can:
                    some[cell] = True
        self.choices = tuple([choice for choice, _ in fitting])
        sure = [cell for cell in some if all([cell in must for _, must in fitting])]
        self.sure = plate_of(sure)
        self.open_cells = tuple(sorted([cell for cell in some if cell not in self.sure]))

    def __bool__(self):
        return bool(self.choices != ())

    def _cells(self, choice):
        """The cells that some pull says the plate must have, and those that all pulls let it have."""
        first, *others = [pull[number] for pull, number in zip(self._readings, choice)]
        must = {cell: True for reading in (first, *others) for cell in reading.must}
        can = [cell for cell in (*first.must, *first.may) if all([reading.allows(cell) for reading in others])]
        return must, {cell: True for cell in can}

    def fits(self, plate):
        """Whether the job with this plate shows each pull at some lie."""
        for pull in self._readings:
            if not any([reading is not None and reading.fits(plate) for reading in pull]):
                return False
        return True

    def _judged_open(self, cell):
        told = plain(cell)
        if not is_cell(told) or told not in self.open_cells:
            raise NoCell(cell)
        return told

    def with_cell(self, cell):
        """The plate with this open cell, of the first choice for which there is one, with the fewest cells."""
        told = self._judged_open(cell)
        fitting = [self._cells(choice) for choice in self.choices]
        having = [must for must, can in fitting if told in can]
        return plate_of([*having[0], told])

    def without_cell(self, cell):
        """The plate without this open cell, of the first choice for which there is one, with the fewest cells."""
        told = self._judged_open(cell)
        fitting = [self._cells(choice) for choice in self.choices]
        lacking = [must for must, _ in fitting if told not in must]
        return plate_of(lacking[0])
