"""Patches: rows of steps on a plate, which keep unions of plates."""

from strayplates.common import is_number_of, is_tuple, is_within, plain
from strayplates.errors import BadPatch, NoStep
from strayplates.plate import plate_of

# For each kind of step, how far the numbers behind its kind can be from 0.
BOUNDS = {
    "set": (20, 20),
    "clear": (20, 20),
    "take": (20, 20, 20, 20),
    "join": (20, 20, 20, 20),
    "move": (5, 5),
    "grow": (5, 5),
}


def _is_step(step):
    if not isinstance(step, tuple) or step == () or not isinstance(step[0], str) or step[0] not in BOUNDS:
        return False
    bounds = BOUNDS[step[0]]
    if len(step) != len(bounds) + 1:
        return False
    return all([is_within(number, -bound, bound) for number, bound in zip(step[1:], bounds)])


def _named_cells(step):
    """The cells that the step names."""
    if step[0] in ("move", "grow"):
        return ()
    return tuple([step[at:at + 2] for at in range(1, len(step), 2)])


def _done(step, has):
    """The cells of a plate behind the step, a dict as those ahead of it."""
    if step[0] in ("move", "grow"):
        _, rows, columns = step
        moved = [(row + rows, column + columns) for row, column in has]
        return {cell: True for cell in (moved if step[0] == "move" else [*has, *moved])}
    first, other = step[1:3], step[-2:]
    behind = {cell: True for cell in has if cell != other}
    becomes = step[0] == "set" or (step[0] in ("take", "join") and first in has)
    if becomes or (step[0] == "join" and other in has):
        behind[other] = True
    return behind


def _done_all(steps, cells):
    """The cells that the steps make of a plate with these cells, ascending."""
    has = {cell: True for cell in cells}
    for step in steps:
        has = _done(step, has)
    return tuple(sorted(has))


def _offsets_behind(step, offsets):
    """The offsets behind a step, ascending."""
    if step[0] not in ("move", "grow"):
        return offsets
    _, rows, columns = step
    moved = [(row + rows, column + columns) for row, column in offsets]
    return tuple(moved) if step[0] == "move" else tuple(sorted(set([*offsets, *moved])))


class Patch:
    def __init__(self, steps=()):
        told = plain(steps)
        if not is_tuple(told, 0, 8):
            raise BadPatch(-1)
        for number, step in enumerate(told):
            if not _is_step(step):
                raise BadPatch(number)
        self.steps = told

    def __call__(self, plate):
        return plate_of(_done_all(self.steps, plate.cells))

    def __len__(self):
        return len(self.steps)

    def __iter__(self):
        return iter(self.steps)

    def __eq__(self, other):
        return isinstance(other, Patch) and self.steps == other.steps

    def __add__(self, other):
        return Patch(self.steps + other.steps)

    def but(self, number):
        """The patch without the step with this number."""
        if not is_number_of(number, self.steps):
            raise NoStep(number)
        return Patch(self.steps[:number] + self.steps[number + 1:])

    @property
    def always(self):
        """The plate of the cells that it makes of the empty plate."""
        return plate_of(_done_all(self.steps, ()))

    @property
    def offsets(self):
        """By what the images of a cell that is not special lie off from it."""
        offsets = ((0, 0),)
        for step in self.steps:
            offsets = _offsets_behind(step, offsets)
        return offsets

    @property
    def special(self):
        """The cells for which some step can do something else than for most cells."""
        offsets = ((0, 0),)
        found = {}
        for step in self.steps:
            for row, column in _named_cells(step):
                for rows, columns in offsets:
                    found[(row - rows, column - columns)] = True
            offsets = _offsets_behind(step, offsets)
        return tuple(sorted(found))

    def images(self, cell):
        """The cells that it makes of this cell alone, without those that it always sets."""
        always = {other: True for other in _done_all(self.steps, ())}
        return tuple([other for other in _done_all(self.steps, (plain(cell),)) if other not in always])
