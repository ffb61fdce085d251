"""Patches that can be exchanged or undone, steps that are not needed, and patches that lose something."""

from strayplates.patch import Patch
from strayplates.patchpair import FAR, PatchPair
from strayplates.plate import plate_of


def _are_alike(first, second):
    return bool(PatchPair(first, second))


def exchanged(first, second):
    """Whether both patches, one behind the other in either order, are alike."""
    return _are_alike(first + second, second + first)


def undoes(first, second):
    """Whether the second patch undoes the first one."""
    return _are_alike(first + second, Patch())


def needless_steps(patch):
    return tuple([number for number in range(len(patch)) if _are_alike(patch, patch.but(number))])


def lean_patch(patch):
    """The patch without the last step that is needless, again and again, until none is."""
    lean = patch
    needless = needless_steps(lean)
    while needless:
        lean = lean.but(needless[-1])
        needless = needless_steps(lean)
    return lean


def _moved(cell, offset, sign):
    return cell[0] + sign * offset[0], cell[1] + sign * offset[1]


class Images:
    """The images of the cells of a patch, and the cells that can have the same images as other ones."""

    def __init__(self, patch):
        self._patch = patch
        self._offsets = patch.offsets
        self._special = {cell: patch.images(cell) for cell in patch.special}

    def candidates(self):
        """The cells of which one has only such images as other ones have, if any cell has."""
        # With several offsets a cell far off is such a one. With one offset, a cell that is not special shares its
        # image only with special cells, or it has none where the patch always sets the cell.
        reached = [*self._patch.always.cells, *[image for cell in self._special for image in self._special[cell]]]
        back = [_moved(image, offset, -1) for image in reached for offset in self._offsets]
        return [FAR, *self._special, *sorted(set(back))]

    def other_source(self, image, cell):
        """Another cell than this one that has the image, or None."""
        for offset in self._offsets:
            other = _moved(image, offset, -1)
            if other != cell and other not in self._special:
                return other
        for other in self._special:
            if other != cell and image in self._special[other]:
                return other
        return None


def loses(patch):
    """A pair of plates of which the patch makes the same, or None if there are none."""
    images = Images(patch)
    for cell in images.candidates():
        others = [images.other_source(image, cell) for image in patch.images(cell)]
        if None not in others:
            return plate_of(others), plate_of([*others, cell])
    return None
