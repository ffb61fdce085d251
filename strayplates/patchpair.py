"""Patches that are alike: they make the same of all plates."""

from strayplates.common import is_tuple, plain
from strayplates.plate import plate_of
from strayplates.words import is_cell

# A cell that is special for no patch: steps name cells up to 20, and eight steps move them by at most 40.
FAR = (300, 300)


def telling_cells(first, second):
    """None for the empty plate, and the cells alone on plates that tell whether the patches are alike."""
    return (None, *sorted(set([*first.special, *second.special])), FAR)


def _plate_with(cell):
    """The plate with this cell alone, the empty one for None."""
    return plate_of(() if cell is None else (cell,))


def _both_made(first, second, cell):
    """The cells that the one and the other patch make of the plate with this cell alone."""
    plate = _plate_with(cell)
    return first(plate).cells, second(plate).cells


class PatchPair:
    def __init__(self, first, second):
        rows = [(cell, *_both_made(first, second, cell)) for cell in telling_cells(first, second)]
        parting = [cell for cell, one, other in rows if one != other]
        self.plate = _plate_with(parting[0]) if parting else None
        self.table = None if parting else tuple([(cell, made) for cell, made, _ in rows])
        self._rows = () if self.table is None else self.table

    def __bool__(self):
        return self.table is not None

    def __len__(self):
        return len(self._rows)

    def __iter__(self):
        return iter(self._rows)


def _has_form(row):
    """Whether it is a pair of None or a cell, and a tuple of cells."""
    if not is_tuple(row, 2, 2) or not isinstance(row[1], tuple):
        return False
    return (row[0] is None or is_cell(row[0])) and all([is_cell(cell) for cell in row[1]])


def judge_patches(first, second, table):
    rows = plain(table)
    if not isinstance(rows, tuple):
        return -1
    formed = [_has_form(row) for row in rows]
    known = {row[0]: True for row, fit in zip(rows, formed) if fit}
    if not all([cell in known for cell in telling_cells(first, second)]):
        return -1
    for number, row in enumerate(rows):
        if not formed[number]:
            return number
        if _both_made(first, second, row[0]) != (row[1], row[1]):
            return number
    return None
