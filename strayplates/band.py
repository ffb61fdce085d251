"""Bands: which tapes there are, how plates wander along them, and what is seen."""

from strayplates.book import inks_by
from strayplates.common import is_tuple, is_within, plain
from strayplates.errors import BadBars, BadLies, BadPace, BadTape
from strayplates.words import WHITE, judged_palette


def judged_nexts(bars, palette, most, known):
    """The bars, (colour, next), as a tuple of different pairs of colours of the palette, none of the known ones."""
    told = plain(bars)
    if not is_tuple(told, 0, most):
        raise BadBars(-1)
    for number, bar in enumerate(told):
        if not is_tuple(bar, 2, 2) or bar[0] not in palette or bar[1] not in palette:
            raise BadBars(number)
        if bar in told[:number] or bar in known:
            raise BadBars(number)
    return told


def _side_lies(boxes):
    """All tuples with a side lie for each box, in order."""
    found = [()]
    for _, _, left, right in boxes:
        found = [(*lies, side) for lies in found for side in range(-left, right + 1)]
    return tuple(found)


def _is_near(lies, others, pace):
    return all([abs(side - other) <= pace for side, other in zip(lies, others)])


class Band:
    def __init__(self, press, colours, *, pace=1, bars=()):
        self.press = press
        self.colours = judged_palette(colours)
        if not is_within(pace, 0, 1):
            raise BadPace(pace)
        self.pace = pace
        self.bars = judged_nexts(bars, self.colours, 8, ())
        self.left = max([0, *[left for _, _, left, _ in press.boxes]])
        self.right = max([0, *[right for _, _, _, right in press.boxes]])
        self.depth = self.left + self.right + 2
        self._lies = _side_lies(press.boxes)
        self._drifts = {lies: [other for other in self._lies if _is_near(lies, other, pace)] for lies in self._lies}

    @property
    def lies(self):
        return self._lies

    @property
    def beginning(self):
        return (WHITE,) * self.depth

    def onward(self, behind, lies):
        """The steps that can be taken, in order."""
        follows = self.drifts(plain(lies))
        return tuple([(colour, other) for colour in self.nexts(plain(behind)) for other in follows])

    def after(self, behind, step):
        """What is known behind the step."""
        return (*behind[1:], step[0])

    def seen(self, book, behind, step):
        """The colour that is seen with the step."""
        return self.shown(self.printings(book, (*behind, step[0])), step[1])

    def with_bars(self, *pairs):
        return Band(self.press, self.colours, pace=self.pace, bars=self.bars + pairs)

    def is_colour(self, thing):
        """Whether the thing is white or of the palette."""
        return isinstance(thing, str) and thing in (WHITE, *self.colours)

    def is_behind(self, thing):
        return is_tuple(thing, self.depth, self.depth) and all([self.is_colour(part) for part in thing])

    def is_lies(self, thing):
        """Whether the thing is a tuple with a side lie for each box."""
        if not is_tuple(thing, len(self.press.boxes), len(self.press.boxes)):
            return False
        return all([is_within(side, -box[2], box[3]) for side, box in zip(thing, self.press.boxes)])

    def nexts(self, behind):
        """The colours that bars allow behind the newest one."""
        return [colour for colour in (WHITE, *self.colours) if (behind[-1], colour) not in self.bars]

    def drifts(self, lies):
        """The lies that can come behind these ones, all of them behind None."""
        return list(self._lies) if lies is None else list(self._drifts[lies])

    def printings(self, book, window):
        """The inks that are printed at the inner columns of a window: what is behind, and a new colour."""
        inner = range(1, len(window) - 1)
        return [inks_by(book.rules, window[k], (WHITE, window[k - 1], window[k + 1], WHITE)) for k in inner]

    def shown(self, printings, lies):
        """The colour that is seen, at these lies, at the column that such a window tells."""
        seen = WHITE
        for name, turn in self.press.units:
            side = 0 if turn == 0 else lies[turn - 1]
            if name in printings[self.right - side]:
                seen = self.press.shelf.laid(seen, name)
        return seen


def _judged_tape(band, tape):
    told = plain(tape)
    if not is_tuple(told, 0, 60):
        raise BadTape(-1)
    for number, colour in enumerate(told):
        if not band.is_colour(colour) or (number > 0 and (told[number - 1], colour) in band.bars):
            raise BadTape(number)
    return told


def _judged_lies(band, lies, many):
    told = plain(lies)
    if not is_tuple(told, many, many):
        raise BadLies(-1)
    for number, here in enumerate(told):
        if not band.is_lies(here) or (number > 0 and not _is_near(here, told[number - 1], band.pace)):
            raise BadLies(number)
    return told


def tape_seen(band, book, tape, lies):
    """The colours that are seen along the tape, one for each entry of lies."""
    colours = _judged_tape(band, tape)
    wandering = _judged_lies(band, lies, len(colours) + band.depth)
    row = band.beginning + colours + band.beginning
    found = []
    for number, here in enumerate(wandering):
        window = row[number:number + band.depth + 1]
        found.append(band.shown(band.printings(book, window), here))
    return tuple(found)
