"""The lines of drawings."""

from strayplates.common import Lines, line_of
from strayplates.drawing import Drawing
from strayplates.words import is_word

DEEDS = ("box", "row", "dots", "put", "again", "end")


def _lines_of_deeds(deeds):
    lines = []
    for deed in deeds:
        if deed[0] == "again":
            lines = [*lines, line_of(deed[:4]), *_lines_of_deeds(deed[4]), "end"]
        elif deed[0] == "row":
            lines.append(line_of([*deed[:3], *deed[3]]))
        else:
            lines.append(line_of(deed))
    return lines


def write_page(drawing):
    lines = ["page"]
    for name, rows in drawing.stamps:
        lines = [*lines, line_of(["stamp", name]), *rows, "end"]
    return (*lines, *_lines_of_deeds(drawing.deeds), "end")


def _are_signs(word):
    return 1 <= len(word) <= 8 and all([sign in "x." for sign in word])


def _read_rows(walk):
    """The strings of a stamp, up to its end."""
    rows = []
    walk.begin()
    word = walk.take(_are_signs)
    while word != "end":
        rows.append(word)
        walk.close()
        walk.begin()
        word = walk.take(lambda told: _follows(told, rows))
    walk.close()
    return tuple(rows)


def _follows(word, rows):
    """Whether the word can come behind these strings of a stamp."""
    return word == "end" or (len(rows) < 6 and _are_signs(word) and len(word) == len(rows[0]))


def _read_stamps(walk):
    """The stamps, as a dict of their strings, and the first word of the line behind them."""
    stamps = {}
    head = walk.head(("stamp", *DEEDS))
    while head == "stamp":
        name = walk.take(lambda word: is_word(word) and word not in stamps)
        walk.close()
        stamps[name] = _read_rows(walk)
        head = walk.head(DEEDS if len(stamps) == 6 else ("stamp", *DEEDS))
    return stamps, head


def _read_place(walk):
    return [walk.integer(-20, 20), walk.integer(-20, 20)]


def _read_sizes(walk, most):
    return [walk.integer(1, most), walk.integer(1, most)]


def _read_deed(walk, kind, stamps):
    """The deed, no `again`, the first word of which has been read."""
    deed = [kind]
    if kind == "put":
        deed.append(walk.take(lambda word: word in stamps))
    deed = deed + _read_place(walk)
    if kind == "row":
        return (*deed, walk.some(is_word, 1, 20))
    if kind != "put":
        deed = deed + _read_sizes(walk, 12)
    if kind == "dots":
        deed = deed + _read_sizes(walk, 9)
    return (*deed, *walk.some(is_word, 1, 1))


def _read_deeds(walk, head, stamps, level):
    """The deeds up to their end, in so many levels of `again`; the first word of their first line has been read."""
    deeds = []
    while head != "end":
        if head == "again":
            told = [walk.integer(0, 9), *_read_place(walk)]
            walk.close()
            inner = _read_deeds(walk, walk.head(_heads(level + 1)), stamps, level + 1)
            deeds.append((head, *told, inner))
        else:
            deeds.append(_read_deed(walk, head, stamps))
        head = walk.head(_heads(level))
    walk.close()
    return tuple(deeds)


def _heads(level):
    """The first words of lines that can come within so many levels of `again`."""
    return DEEDS if level < 3 else tuple([word for word in DEEDS if word != "again"])


def read_page(lines):
    walk = Lines(lines)
    walk.head(("page",))
    walk.close()
    stamps, head = _read_stamps(walk)
    deeds = _read_deeds(walk, head, stamps, 0)
    walk.end()
    return Drawing(tuple(stamps.items()), deeds)
