"""Jobs that are alike: they show the same picture at each lie."""

from strayplates.common import is_within
from strayplates.errors import NoUnit, Unlike
from strayplates.job import Job
from strayplates.press import Press


def _first_difference(one, other):
    """The first cell in which two pictures differ, or None."""
    for cell in sorted(set([(row, column) for row, column, _ in one.cells + other.cells])):
        if one[cell] != other[cell]:
            return cell
    return None


class JobPair:
    def __init__(self, first, second):
        if first.press.boxes != second.press.boxes:
            raise Unlike("boxes")
        self.lie, self.cell = None, None
        for number, lie in enumerate(first.press.lies):
            if self.lie is None:
                self.cell = _first_difference(first.shown(lie), second.shown(lie))
                self.lie = None if self.cell is None else number

    def __bool__(self):
        return self.lie is None


def _exchanged(row, number):
    """The row in which the thing with this number and the next one have changed places."""
    return [*row[:number], row[number + 1], row[number], *row[number + 2:]]


def swapped(job, number):
    """The job in which the unit with this number and the next one have changed places."""
    press = job.press
    if not is_within(number, 0, len(press) - 2):
        raise NoUnit(number)
    return Job(Press(press.shelf, _exchanged(press.units, number), press.boxes), _exchanged(job.plates, number))
