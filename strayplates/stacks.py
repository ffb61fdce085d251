"""The seen colours of a shelf, with the least stack of each."""

from strayplates.common import Finding, Walk, is_tuple, plain
from strayplates.errors import NoColour
from strayplates.words import WHITE, is_word


class StackWalk(Walk):
    """The seen colours of a shelf, and what is seen when inks are laid over them."""

    def __init__(self, shelf):
        self.shelf = shelf
        self.start = WHITE

    def moves(self, colour):
        return [(name, None, seen) for name, seen in zip(self.shelf.names, laid_over(self.shelf, colour))]


def laid_over(shelf, colour):
    """What is seen when each ink of the shelf is laid over the colour."""
    return tuple([shelf.laid(colour, name) for name in shelf.names])


class Stacks:
    def __init__(self, shelf):
        finding = Finding(StackWalk(shelf), None)
        self.shelf = shelf
        self.table = tuple([(colour, laid_over(shelf, colour)) for colour in finding.standings])
        self._stacks = {colour: finding.steps_to(colour) for colour in finding.standings}

    def __len__(self):
        return len(self.table)

    def __iter__(self):
        return iter(self.table)

    def __contains__(self, x):
        return isinstance(x, str) and x in self._stacks

    def stack_of(self, colour):
        """The least stack of a seen colour."""
        if colour not in self:
            raise NoColour(colour)
        return self._stacks[colour]


def _has_form(row, many):
    """Whether it is a pair of a colour and a tuple of so many colours."""
    if not is_tuple(row, 2, 2) or not is_word(row[0]) or not is_tuple(row[1], many, many):
        return False
    return all([is_word(colour) for colour in row[1]])


def judge_stacks(shelf, table):
    rows = plain(table)
    if not isinstance(rows, tuple) or rows == () or not is_tuple(rows[0], 2, 2) or rows[0][0] != WHITE:
        return -1
    formed = [_has_form(row, len(shelf)) for row in rows]
    known = {row[0]: True for row, fit in zip(rows, formed) if fit}
    met = {}
    for number, row in enumerate(rows):
        if not formed[number] or row[0] in met or row[1] != laid_over(shelf, row[0]):
            return number
        if not all([colour in known for colour in row[1]]):
            return number
        met[row[0]] = True
    return None
