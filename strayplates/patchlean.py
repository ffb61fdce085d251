"""Patches that can be exchanged or undone, steps that are not needed, and patches that lose something."""

from strayplates.patch import Patch
from strayplates.patchpair import FAR, PatchPair
from strayplates.plate import plate_of


def _are_alike(first, second):
    return bool(PatchPair(first, second))


def exchanged(first, second):
    """Whether both patches, one behind the other in either order, are alike."""
    return _are_alike(first + second, second + first)


def undoes(first, second):
    """Whether the second patch undoes the first one."""
    return _are_alike(first + second, Patch())


def needless_steps(patch):
    return tuple([number for number in range(len(patch)) if _are_alike(patch, patch.but(number))])


def lean_patch(patch):
    """The patch without the last step that is needless, again and again, until none is."""
    lean = patch
    needless = needless_steps(lean)
    while needless:
        lean = lean.but(needless[-1])
        needless = needless_steps(lean)
    return lean


def _other_source(patch, special, image, cell):
    """Another cell than this one that has the image, or None; special tells the images of the special cells."""
    for rows, columns in patch.offsets:
        other = (image[0] - rows, image[1] - columns)
        if other != cell and other not in special:
            return other
    for other in special:
        if other != cell and image in special[other]:
            return other
    return None


def loses(patch):
    """A pair of plates of which the patch makes the same, or None if there are none."""
    special = {cell: patch.images(cell) for cell in patch.special}
    # With several offsets, the images of a cell far off are those of other ones, too. With one, only a special cell
    # can lose: where a patch always sets a cell, or makes it of another one, a step names it, and so it is special.
    for cell in (FAR, *special):
        others = [_other_source(patch, special, image, cell) for image in patch.images(cell)]
        if None not in others:
            return plate_of(others), plate_of([*others, cell])
    return None
