"""Drawings: small programs that paint pages with boxes, rows, dots and stamps."""

from strayplates.common import is_tuple, is_within, plain
from strayplates.errors import BadDeed, BadStamp, Clash, TooMany
from strayplates.picture import inked_rows, picture_of
from strayplates.words import WHITE, is_word


def _is_sign_row(row, width):
    return isinstance(row, str) and len(row) == width and all([sign in "x." for sign in row])


def _is_stamp(stamp):
    if not is_tuple(stamp, 2, 2) or not is_word(stamp[0]) or not is_tuple(stamp[1], 1, 6):
        return False
    rows = stamp[1]
    if not isinstance(rows[0], str) or not 1 <= len(rows[0]) <= 8:
        return False
    return all([_is_sign_row(row, len(rows[0])) for row in rows])


def _are_places(places):
    return all([is_within(place, -20, 20) for place in places])


def _are_sizes(sizes, most):
    return all([is_within(size, 1, most) for size in sizes])


def _is_deed(deed, names, level):
    """Whether it is a deed, with stamps of these names, that stands in so many levels of `again`."""
    if not isinstance(deed, tuple) or deed == ():
        return False
    kind, parts = deed[0], deed[1:]
    if kind == "box" and len(parts) == 5:
        return _are_places(parts[:2]) and _are_sizes(parts[2:4], 12) and is_word(parts[4])
    if kind == "row" and len(parts) == 3:
        return _are_places(parts[:2]) and is_tuple(parts[2], 1, 20) and all([is_word(hue) for hue in parts[2]])
    if kind == "dots" and len(parts) == 7:
        fit = _are_places(parts[:2]) and _are_sizes(parts[2:4], 12)
        return fit and _are_sizes(parts[4:6], 9) and is_word(parts[6])
    if kind == "put" and len(parts) == 4:
        return parts[0] in names and _are_places(parts[1:3]) and is_word(parts[3])
    if kind != "again" or len(parts) != 4 or level == 3 or not is_within(parts[0], 0, 9):
        return False
    if not _are_places(parts[1:3]) or not isinstance(parts[3], tuple):
        return False
    return all([_is_deed(inner, names, level + 1) for inner in parts[3]])


def _deeds_of(deeds):
    """How many deeds there are, those within `again` counted once each."""
    return sum([1 + (_deeds_of(deed[4]) if deed[0] == "again" else 0) for deed in deeds])


def _painted_by(deeds, stamps):
    """How many cells the deeds paint, each as often as it is painted; stamps is a dict of their rows."""
    many = 0
    for deed in deeds:
        if deed[0] == "again":
            many = many + deed[1] * _painted_by(deed[4], stamps)
        else:
            many = many + len(_cells_of(deed, stamps))
    return many


def _cells_of(deed, stamps):
    """The triples of the cells that the deed, no `again`, paints, and their new colours."""
    if deed[0] == "row":
        _, top, left, colours = deed
        return [(top, left + k, colour) for k, colour in enumerate(colours)]
    if deed[0] == "put":
        _, name, top, left, colour = deed
        signs = [(r, c, sign) for r, row in enumerate(stamps[name]) for c, sign in enumerate(row)]
        return [(top + r, left + c, colour) for r, c, sign in signs if sign == "x"]
    top, left, height, width = deed[1:5]
    down, right = deed[5:7] if deed[0] == "dots" else (1, 1)
    return [(top + r, left + c, deed[-1]) for r in range(0, height, down) for c in range(0, width, right)]


def _moved(deed, rows, columns):
    """The deed, no `again`, moved."""
    at = 2 if deed[0] == "put" else 1
    return (*deed[:at], deed[at] + rows, deed[at + 1] + columns, *deed[at + 2:])


def _unrolled(deeds, rows, columns):
    found = []
    for deed in deeds:
        if deed[0] == "again":
            _, times, down, right, inner = deed
            for time in range(times):
                found = found + _unrolled(inner, rows + time * down, columns + time * right)
        else:
            found.append(_moved(deed, rows, columns))
    return found


def _colours_left(deeds, stamps, rows, columns):
    """The colours that the deeds, moved, leave on their cells, also white."""
    colours = {}
    for deed in _unrolled(deeds, rows, columns):
        for row, column, colour in _cells_of(deed, stamps):
            colours[(row, column)] = colour
    return colours


class Drawing:
    def __init__(self, stamps=(), deeds=()):
        self.stamps = plain(stamps)
        if not is_tuple(self.stamps, 0, 6):
            raise BadStamp(-1)
        for number, stamp in enumerate(self.stamps):
            if not _is_stamp(stamp) or stamp[0] in [name for name, _ in self.stamps[:number]]:
                raise BadStamp(number)
        self.deeds = plain(deeds)
        if not isinstance(self.deeds, tuple):
            raise BadDeed(-1)
        names = [name for name, _ in self.stamps]
        for number, deed in enumerate(self.deeds):
            if not _is_deed(deed, names, 0):
                raise BadDeed(number)
        if _deeds_of(self.deeds) > 40:
            raise TooMany("deed")
        self._painted = _painted_by(self.deeds, dict(self.stamps))
        if self._painted > 2000:
            raise TooMany("cell")

    @property
    def painted(self):
        """How many cells are painted, each as often as it is painted."""
        return self._painted

    def __len__(self):
        return len(self.deeds)

    def __iter__(self):
        return iter(self.deeds)

    def __eq__(self, other):
        return isinstance(other, Drawing) and self.stamps == other.stamps and self.deeds == other.deeds

    def __add__(self, other):
        own = {name: rows for name, rows in self.stamps}
        for name, rows in other.stamps:
            if name in own and own[name] != rows:
                raise Clash(name)
        further = [stamp for stamp in other.stamps if stamp[0] not in own]
        return Drawing([*self.stamps, *further], self.deeds + other.deeds)

    def unrolled(self):
        """The deeds without `again`: the deeds of each time stand in its place, moved."""
        return tuple(_unrolled(self.deeds, 0, 0))

    def drawn(self, *, rows=0, columns=0):
        """The picture that the drawing paints, moved."""
        return picture_of(_colours_left(self.deeds, dict(self.stamps), rows, columns))


def _layers(drawing):
    """For each outer deed, a dict of the colours that it leaves on its cells."""
    stamps = dict(drawing.stamps)
    return [_colours_left([deed], stamps, 0, 0) for deed in drawing.deeds]


def _hidden_layers(layers):
    """The numbers of the layers without which the same is seen."""
    tops = {}
    unders = {}
    for number, layer in reversed(list(enumerate(layers))):
        for cell, colour in layer.items():
            if cell not in tops:
                tops[cell] = (number, colour)
            elif cell not in unders:
                unders[cell] = colour
    # Only the uppermost layer of a cell matters: without it, the one below is seen there, or white.
    needed = {tops[cell][0]: True for cell in tops if unders.get(cell, WHITE) != tops[cell][1]}
    return [number for number in range(len(layers)) if number not in needed]


def hidden(drawing):
    """The numbers of the outer deeds that are hidden."""
    return tuple(_hidden_layers(_layers(drawing)))


def lean_drawing(drawing):
    """The drawing without the last outer deed that is hidden, again and again, until none is."""
    deeds = list(drawing.deeds)
    layers = _layers(drawing)
    needless = _hidden_layers(layers)
    while needless:
        del deeds[needless[-1]]
        del layers[needless[-1]]
        needless = _hidden_layers(layers)
    return Drawing(drawing.stamps, deeds)


def plain_drawing(picture):
    """The drawing that draws the picture plainly, by rows of inked cells side by side."""
    return Drawing((), [("row", row, column, colours) for row, column, colours in inked_rows(picture)])
