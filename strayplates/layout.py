"""Layouts: copies of a page on one sheet."""

from strayplates.common import is_number_of, is_tuple, is_within, plain
from strayplates.errors import BadJob, BadLayout, NoCopy
from strayplates.job import Job
from strayplates.picture import picture_of
from strayplates.plate import plate_of


def _is_copy(thing):
    if not is_tuple(thing, 3, 3) or not isinstance(thing[2], bool):
        return False
    return is_within(thing[0], 0, 60) and is_within(thing[1], 0, 60)


def _meet(one, other, height, width):
    """Whether the boxes of two copies, of so many rows and columns, have a cell in common."""
    return abs(one[0] - other[0]) < height and abs(one[1] - other[1]) < width


def _turned_cell(cell, height, width):
    return height - 1 - cell[0], width - 1 - cell[1]


class Layout:
    def __init__(self, height, width, copies):
        told = plain(copies)
        if not is_within(height, 1, 12) or not is_within(width, 1, 12) or not is_tuple(told, 1, 8):
            raise BadLayout(-1)
        for number, copy in enumerate(told):
            if not _is_copy(copy) or any([_meet(copy, earlier, height, width) for earlier in told[:number]]):
                raise BadLayout(number)
        self.height = height
        self.width = width
        self.copies = told

    def __getitem__(self, at):
        if not is_number_of(at, self.copies):
            raise NoCopy(at)
        return self.copies[at]

    def __len__(self):
        return len(self.copies)

    def __iter__(self):
        return iter(self.copies)

    def __eq__(self, other):
        if not isinstance(other, Layout) or self.copies != other.copies:
            return False
        return self.height == other.height and self.width == other.width

    def _lies_on_page(self, cell):
        """Whether the cell lies within the box of the page."""
        return 0 <= cell[0] < self.height and 0 <= cell[1] < self.width

    def sheet(self, job):
        """The job of the sheet, made of the job of a page."""
        for number, plate in enumerate(job.plates):
            if not all([self._lies_on_page(cell) for cell in plate]):
                raise BadJob(number)
        return Job(job.press, [self._copied(plate) for plate in job.plates])

    def _copied(self, plate):
        cells = []
        for top, left, turned in self.copies:
            lying = plate.turned(self.height, self.width) if turned else plate
            cells = cells + [(row + top, column + left) for row, column in lying]
        return plate_of(cells)

    def view(self, picture, number, *, margin=0):
        """What the window of a copy shows, as the page lies."""
        top, left, turned = self[number]
        seen = {}
        for row, column, colour in picture:
            cell = (row - top, column - left)
            if -margin <= cell[0] < self.height + margin and -margin <= cell[1] < self.width + margin:
                seen[_turned_cell(cell, self.height, self.width) if turned else cell] = colour
        return picture_of(seen)

    def apart(self, margin):
        """Whether the windows of all copies have no cell in common."""
        height, width = self.height + 2 * margin, self.width + 2 * margin
        for number, copy in enumerate(self.copies):
            if any([_meet(copy, earlier, height, width) for earlier in self.copies[:number]]):
                return False
        return True


def opposite(lie):
    """The lie with all signs changed."""
    return tuple([(-row, -column) for row, column in lie])
