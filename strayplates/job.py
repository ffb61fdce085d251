"""Jobs: a press with a plate for each of its units, and what they show."""

from strayplates.common import is_number_of, is_tuple, plain
from strayplates.errors import BadJob, NoUnit
from strayplates.picture import picture_of
from strayplates.plate import Plate
from strayplates.press import shift_in
from strayplates.words import WHITE


class Job:
    def __init__(self, press, plates):
        told = plain(plates)
        if not is_tuple(told, len(press.units), len(press.units)):
            raise BadJob(-1)
        for number, plate in enumerate(told):
            if not isinstance(plate, Plate):
                raise BadJob(number)
        self.press = press
        self.plates = told

    @property
    def true_picture(self):
        return self.shown(self.press.lies[0])

    def __eq__(self, other):
        return isinstance(other, Job) and self.press == other.press and self.plates == other.plates

    def shown(self, lie):
        """The picture that the job shows at this lie."""
        true_lie = self.press.lies[self.press.number_of(lie)]
        seen = {}
        for unit, plate in zip(self.press.units, self.plates):
            rows, columns = shift_in(unit, true_lie)
            for row, column in plate.cells:
                cell = (row + rows, column + columns)
                seen[cell] = self.press.shelf.laid(seen.get(cell, WHITE), unit[0])
        return picture_of(seen)

    def printed(self, cell, lie):
        """The names of the inks that are laid on this cell of the sheet, in order."""
        true_lie = self.press.lies[self.press.number_of(lie)]
        row, column = cell
        names = []
        for unit, plate in zip(self.press.units, self.plates):
            rows, columns = shift_in(unit, true_lie)
            if (row - rows, column - columns) in plate:
                names.append(unit[0])
        return tuple(names)

    def with_plate(self, number, plate):
        """The job with this plate for the unit with this number."""
        if not is_number_of(number, self.plates):
            raise NoUnit(number)
        return Job(self.press, [*self.plates[:number], plate, *self.plates[number + 1:]])
