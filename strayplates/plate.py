"""Plates: finite sets of cells."""

from strayplates.common import is_tuple, is_within, plain
from strayplates.errors import BadPlate
from strayplates.words import is_cell


def _is_plate_cell(cell):
    return is_cell(cell) and is_within(cell[0], -50, 50) and is_within(cell[1], -50, 50)


class Plate:
    def __init__(self, cells=()):
        told = plain(cells)
        if not is_tuple(told, 0, 200):
            raise BadPlate(-1)
        for number, cell in enumerate(told):
            if not _is_plate_cell(cell) or (number > 0 and told[number - 1] >= cell):
                raise BadPlate(number)
        self.cells = told
        self._has = {cell: True for cell in told}

    @classmethod
    def block(cls, top, left, height, width):
        """The plate of all cells of a box."""
        return plate_of([(row, column) for row in range(top, top + height) for column in range(left, left + width)])

    def __contains__(self, x):
        return is_cell(x) and (x[0], x[1]) in self._has

    def __len__(self):
        return len(self.cells)

    def __iter__(self):
        return iter(self.cells)

    def __eq__(self, other):
        return isinstance(other, Plate) and self.cells == other.cells

    def __add__(self, other):
        return plate_of(self.cells + other.cells)

    def __sub__(self, other):
        return plate_of([cell for cell in self.cells if cell not in other])

    def moved(self, rows, columns):
        return plate_of([(row + rows, column + columns) for row, column in self.cells])

    def turned(self, height, width):
        """The plate in which what was at (r, c) is at (height - 1 - r, width - 1 - c)."""
        return plate_of([(height - 1 - row, width - 1 - column) for row, column in self.cells])


def plate_of(cells):
    """The plate of these cells, in whatever order and however many."""
    made = Plate()
    made.cells = tuple(sorted(set(cells)))
    made._has = {cell: True for cell in made.cells}
    return made
