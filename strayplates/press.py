"""Presses, their units and boxes, and all their lies."""

from strayplates.common import is_number_of, is_tuple, is_within, plain
from strayplates.errors import BadPress, NoInk, NoLie, NoUnit, TooMany
from strayplates.words import is_cell


def is_box(box):
    return is_tuple(box, 4, 4) and all([is_within(number, 0, 3) for number in box])


def _are_units(units, shelf, passes):
    if not is_tuple(units, 1, 4) or not all([is_tuple(unit, 2, 2) for unit in units]):
        return False
    for number, (name, turn) in enumerate(units):
        if name not in shelf or name in [earlier for earlier, _ in units[:number]]:
            return False
        if not is_within(turn, 0, passes):
            return False
    return True


def _distance(lie):
    return sum([abs(row) + abs(column) for row, column in lie])


def _lies_of(boxes):
    """All lies, by how far they are off, and then as tuples."""
    found = [()]
    for up, down, left, right in boxes:
        pairs = [(row, column) for row in range(-up, down + 1) for column in range(-left, right + 1)]
        found = [(*lie, pair) for lie in found for pair in pairs]
    return tuple([lie for _, lie in sorted([(_distance(lie), lie) for lie in found])])


class Press:
    def __init__(self, shelf, units, boxes=()):
        told_units, told_boxes = plain(units), plain(boxes)
        if not is_tuple(told_boxes, 0, 2) or not all([is_box(box) for box in told_boxes]):
            raise BadPress("boxes")
        if not _are_units(told_units, shelf, len(told_boxes)):
            raise BadPress("units")
        self.shelf = shelf
        self.units = told_units
        self.boxes = told_boxes
        self._lies = _lies_of(told_boxes)
        if len(self._lies) > 300:
            raise TooMany("lie")
        self._numbers = {lie: number for number, lie in enumerate(self._lies)}

    @property
    def names(self):
        return tuple([name for name, _ in self.units])

    @property
    def lies(self):
        return self._lies

    @property
    def mirror(self):
        """The press with up and down, and left and right, exchanged in each box."""
        return Press(self.shelf, self.units, [(down, up, right, left) for up, down, left, right in self.boxes])

    def __len__(self):
        return len(self.units)

    def __iter__(self):
        return iter(self.units)

    def __eq__(self, other):
        if not isinstance(other, Press):
            return False
        return self.shelf == other.shelf and self.units == other.units and self.boxes == other.boxes

    def number_of(self, lie):
        told = plain(lie)
        # True and False are equal to 1 and 0, so the form is judged before the lie is looked up.
        if not isinstance(told, tuple) or not all([is_cell(pair) for pair in told]) or told not in self._numbers:
            raise NoLie(lie)
        return self._numbers[told]

    def off(self, lie):
        """How far the lie is off."""
        return _distance(self._lies[self.number_of(lie)])

    def shift(self, number, lie):
        """The pair by which the plate of the unit with this number is moved."""
        if not is_number_of(number, self.units):
            raise NoUnit(number)
        return shift_in(self.units[number], self._lies[self.number_of(lie)])

    def unit_of(self, name):
        for number, (ink, _) in enumerate(self.units):
            if ink == name:
                return number
        raise NoInk(name)


def shift_in(unit, lie):
    """The pair by which a lie moves the plate of a unit."""
    _, turn = unit
    return (0, 0) if turn == 0 else lie[turn - 1]
