"""Words, colours, cells, palettes."""

from strayplates.common import is_ascending, is_integer, is_tuple, plain
from strayplates.errors import BadPalette

WHITE = "white"
WAYS = ("across", "down")
SIDES = ("up", "left", "right", "down", "near", "hemmed")
LETTERS = "abcdefghijklmnopqrstuvwxyz"


def is_word(thing):
    if not isinstance(thing, str) or not 1 <= len(thing) <= 8:
        return False
    return all([letter in LETTERS for letter in thing])


def is_hue(thing):
    """Whether the thing is a colour other than white."""
    return is_word(thing) and thing != WHITE


def is_cell(thing):
    if not isinstance(thing, (list, tuple)) or len(thing) != 2:
        return False
    return is_integer(thing[0]) and is_integer(thing[1])


def is_palette(thing):
    colours = plain(thing)
    if not is_tuple(colours, 1, 3):
        return False
    return all([is_hue(colour) for colour in colours]) and is_ascending(colours)


def judged_palette(colours):
    """The palette as a tuple."""
    if not is_palette(colours):
        raise BadPalette(colours)
    return tuple(colours)


def neighbours(cell):
    row, column = cell
    return (row - 1, column), (row, column - 1), (row, column + 1), (row + 1, column)
