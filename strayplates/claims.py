"""Claims and wishes: what they say of a page and the picture that stands for it."""

from strayplates.common import is_tuple, is_within, plain
from strayplates.errors import BadClaim, BadWish
from strayplates.picture import cells_of_run, holes, pieces, runs, white_runs
from strayplates.words import WAYS, WHITE, is_word, neighbours

LOCAL = ("never", "thick", "narrow", "shut", "fringe", "keeps", "true")


# The parts of each kind of claim: kinds of words, or the least and the greatest integer. `hue` is a colour other
# than white, and `other` one that is not the part ahead of it either.
PARTS = {
    "never": ("hue",),
    "thick": ("way", "colour", (2, 4)),
    "narrow": ("way", "hue", (1, 4)),
    "shut": ("way", "hue", "other", (1, 3)),
    "fringe": ("hue", (1, 2)),
    "keeps": ("hue",),
    "true": (),
    "holes": (),
    "pieces": ("hue",),
    "blank": ((-50, 50), (-50, 50), (1, 20), (1, 20)),
}


def is_part(part, thing, ahead):
    """Whether the thing is such a part of a claim, behind those that stand ahead of it."""
    if isinstance(part, tuple):
        low, high = part
        return is_within(thing, low, high)
    if not is_word(thing):
        return False
    if part == "way":
        return thing in WAYS
    if part == "other":
        return thing != WHITE and thing != ahead[-1]
    return part == "colour" or thing != WHITE


def is_claim(thing):
    claim = plain(thing)
    if not isinstance(claim, tuple) or claim == () or not isinstance(claim[0], str) or claim[0] not in PARTS:
        return False
    parts = PARTS[claim[0]]
    if len(claim) != len(parts) + 1:
        return False
    return all([is_part(part, claim[k + 1], claim[:k + 1]) for k, part in enumerate(parts)])


def is_local(thing):
    return is_claim(thing) and thing[0] in LOCAL


def is_row_claim(thing):
    if not is_claim(thing):
        return False
    return thing[0] == "never" or (thing[0] in ("thick", "narrow", "shut") and thing[1] == "across")


def judged_local(claim):
    """The local claim with tuples in the place of lists."""
    if not is_local(claim):
        raise BadClaim(claim)
    return plain(claim)


def _never_places(claim, page, picture):
    return [(row, column) for row, column, colour in picture if colour == claim[1]]


def _run_cells(way, found):
    return [cell for run in found for cell in cells_of_run(way, run)]


def _thick_places(claim, page, picture):
    _, way, colour, least = claim
    found = white_runs(picture, way) if colour == WHITE else runs(picture, way, colour)
    return _run_cells(way, [run for run in found if run[2] < least])


def _narrow_places(claim, page, picture):
    _, way, colour, most = claim
    return _run_cells(way, [run for run in runs(picture, way, colour) if run[2] > most])


def _ends_of(way, run):
    """The cells directly at the two ends of a run."""
    row, column, length = run
    if way == "across":
        return (row, column - 1), (row, column + length)
    return (row - 1, column), (row + length, column)


def _shut_places(claim, page, picture):
    _, way, colour, other, most = claim
    found = []
    for run in white_runs(picture, way):
        if run[2] <= most:
            ends = [picture[cell] for cell in _ends_of(way, run)]
            cells = cells_of_run(way, run)
            if ends in ([colour, other], [other, colour]) and any([cell in page for cell in cells]):
                found = found + cells
    return found


def _fringe_places(claim, page, picture):
    _, colour, most = claim
    across, down = [
        _run_cells(way, [run for run in runs(picture, way, colour) if run[2] > most]) for way in WAYS
    ]
    both = {cell: True for cell in down}
    return [cell for cell in across if cell in both]


def _keeps_places(claim, page, picture):
    found = []
    for row, column, colour in page:
        cell = (row, column)
        if colour == claim[1] and picture[cell] != colour:
            if all([page[other] == colour for other in neighbours(cell)]):
                found.append(cell)
    return found


def _true_places(claim, page, picture):
    cells = [(row, column) for row, column, _ in page.cells + picture.cells]
    return [cell for cell in cells if page[cell] != picture[cell]]


def _blank_places(claim, page, picture):
    _, top, left, height, width = claim
    cells = [(row, column) for row, column, _ in picture]
    return [(row, column) for row, column in cells if top <= row < top + height and left <= column < left + width]


PLACES = {
    "never": _never_places,
    "thick": _thick_places,
    "narrow": _narrow_places,
    "shut": _shut_places,
    "fringe": _fringe_places,
    "keeps": _keeps_places,
    "true": _true_places,
    "blank": _blank_places,
}


def _judged(claim):
    if not is_claim(claim):
        raise BadClaim(claim)
    return plain(claim)


def _places_of(told, page, picture):
    if told[0] not in PLACES:
        return ()
    find = PLACES[told[0]]
    return tuple(sorted(set(find(told, page, picture))))


def _is_kept(told, page, picture):
    if told[0] == "holes":
        return len(holes(picture)) == len(holes(page))
    if told[0] == "pieces":
        return len(pieces(picture, told[1])) == len(pieces(page, told[1]))
    return _places_of(told, page, picture) == ()


def places(claim, page, picture):
    return _places_of(_judged(claim), page, picture)


def holds(claim, page, picture):
    return _is_kept(_judged(claim), page, picture)


def judged_wish(wish):
    """The wish with tuples in the place of lists."""
    told = plain(wish)
    if not is_tuple(told, 1, 6):
        raise BadWish(-1)
    for number, claim in enumerate(told):
        if not is_claim(claim):
            raise BadWish(number)
    return told


def breach(wish, page, picture):
    return first_breach(judged_wish(wish), page, picture)


def first_breach(told, page, picture):
    """The breach of a wish that has been judged, or None if it holds."""
    for number, claim in enumerate(told):
        if not _is_kept(claim, page, picture):
            cells = _places_of(claim, page, picture)
            return number, (cells[0] if cells else None)
    return None
