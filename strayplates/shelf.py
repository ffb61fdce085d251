"""Shelves of inks, and the colours of stacks."""

from strayplates.common import is_ascending, is_tuple, plain
from strayplates.errors import BadInk, NoInk, TooMany
from strayplates.words import WHITE, is_hue, is_word


def _is_over(over):
    """Whether it is a tuple of pairs of colours, ascending, with different unders, none of them white."""
    if not is_tuple(over, 0, 12) or not all([is_tuple(pair, 2, 2) for pair in over]):
        return False
    if not all([is_hue(under) and is_word(result) for under, result in over]):
        return False
    return is_ascending([under for under, _ in over])


def _is_ink(ink):
    if not is_tuple(ink, 3, 3):
        return False
    name, own, over = ink
    return is_word(name) and is_hue(own) and _is_over(over)


def _hues_of(inks):
    """White, and then all other colours that the inks name, ascending."""
    named = [own for _, own, _ in inks]
    for _, _, over in inks:
        named = named + [hue for pair in over for hue in pair]
    return (WHITE, *sorted(set([hue for hue in named if hue != WHITE])))


class Shelf:
    def __init__(self, inks):
        told = plain(inks)
        if not is_tuple(told, 1, 5):
            raise BadInk(-1)
        for number, ink in enumerate(told):
            if not _is_ink(ink) or ink[0] in [earlier[0] for earlier in told[:number]]:
                raise BadInk(number)
        self.inks = told
        self._inks_by_name = {ink[0]: ink for ink in told}
        self._results = {ink[0]: {under: result for under, result in ink[2]} for ink in told}
        self._hues = _hues_of(told)
        if len(self._hues) > 12:
            raise TooMany("colour")

    @property
    def names(self):
        return tuple([name for name, _, _ in self.inks])

    @property
    def hues(self):
        return self._hues

    def __getitem__(self, at):
        if at not in self:
            raise NoInk(at)
        return self._inks_by_name[at]

    def __contains__(self, x):
        return isinstance(x, str) and x in self._inks_by_name

    def __len__(self):
        return len(self.inks)

    def __iter__(self):
        return iter(self.inks)

    def __eq__(self, other):
        return isinstance(other, Shelf) and self.inks == other.inks

    def laid(self, colour, name):
        """The colour that is seen when the ink of this name is laid over the colour."""
        _, own, _ = self[name]
        return self._results[name].get(colour, own)

    def stack(self, names):
        seen = WHITE
        for name in names:
            seen = self.laid(seen, name)
        return seen
