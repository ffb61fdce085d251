"""What the plates of some inks tell of another ink or of the tape, for all tapes, by the book that made them."""

from strayplates.book import inks_by
from strayplates.common import Finding, Walk, is_tuple, judge_closed, plain
from strayplates.errors import BadKept
from strayplates.words import WHITE, is_word, judged_palette

# What is found when two tapes that have parted have the same plates of the kept inks.
UNTOLD = (("white", "white"), ("white", "white"), True)


def judged_kept(inks):
    """The inks as a tuple of ascending words."""
    told = plain(inks)
    if not is_tuple(told, 0, 4):
        raise BadKept(-1)
    for number, name in enumerate(told):
        if not is_word(name) or (number > 0 and told[number - 1] >= name):
            raise BadKept(number)
    return told


class TwoTapes(Walk):
    """The standings of two tapes with the same plates of the kept inks, that are gone through side by side."""

    def __init__(self, book, palette, kept, aim):
        self.start = ((WHITE, WHITE), (WHITE, WHITE), False)
        self._book = book
        self._shades = (WHITE, *palette)
        self._kept = kept
        self._aim = aim

    def fails(self, standing):
        return standing == UNTOLD

    def _printed(self, behind, colour):
        """The inks that are printed at the newest column known, when the colour of the next one is this."""
        return inks_by(self._book.rules, behind[1], (WHITE, behind[0], colour, WHITE))

    def _parts(self, colours, inks):
        """Whether the tapes part with these colours of the next column and these inks of the column ahead of it."""
        if self._aim is None:
            return colours[0] != colours[1]
        return (self._aim in inks[0]) != (self._aim in inks[1])

    def moves(self, standing):
        """For each pair of colours in order: the pair, nothing, and the standing that follows."""
        behind, other, parted = standing
        found = []
        for one in self._shades:
            for two in self._shades:
                inks = (self._printed(behind, one), self._printed(other, two))
                if all([(name in inks[0]) == (name in inks[1]) for name in self._kept]):
                    follow = ((behind[1], one), (other[1], two), parted or self._parts((one, two), inks))
                    found.append(((one, two), None, follow))
        return found

    def _is_behind(self, thing):
        return is_tuple(thing, 2, 2) and all([colour in self._shades for colour in thing])

    def has_form(self, row):
        if not is_tuple(row, 3, 3) or not isinstance(row[2], bool):
            return False
        return self._is_behind(row[0]) and self._is_behind(row[1])


class Tells:
    def __init__(self, book, colours, kept, aim=None):
        palette = judged_palette(colours)
        finding = Finding(TwoTapes(book, palette, judged_kept(kept), aim), None)
        steps = [step for step, _ in finding.told_steps()]
        told = finding.broken is None
        self.table = tuple(finding.standings) if told else None
        self.tapes = None if told else tuple([tuple([step[at] for step in steps]) for at in (0, 1)])
        self._rows = tuple(finding.standings) if told else ()

    def __bool__(self):
        return self.table is not None

    def __len__(self):
        return len(self._rows)

    def __iter__(self):
        return iter(self._rows)


def judge_tells(book, colours, kept, aim, table):
    palette = judged_palette(colours)
    return judge_closed(TwoTapes(book, palette, judged_kept(kept), aim), table, UNTOLD)
