"""The forms of local claims: what is wanted of some cells where such a claim is broken."""

from strayplates.claims import judged_local
from strayplates.words import WHITE, judged_palette, neighbours


def _place(way, number):
    return (0, number) if way == "across" else (number, 0)


def _never_forms(claim, colours):
    return [(("shows", (0, 0), claim[1]),)]


def _thick_forms(claim, colours):
    _, way, colour, least = claim
    found = []
    for many in range(1, least):
        shown = [("shows", _place(way, k), colour) for k in range(1, many + 1)]
        found.append((("lacks", _place(way, 0), colour), *shown, ("lacks", _place(way, many + 1), colour)))
    return found


def _narrow_forms(claim, colours):
    _, way, colour, most = claim
    return [tuple([("shows", _place(way, k), colour) for k in range(most + 1)])]


def _shut_form(way, one, other, many, inked):
    whites = [("shows", _place(way, k), WHITE) for k in range(1, many + 1)]
    return (("inked", _place(way, inked)), ("shows", _place(way, 0), one), *whites,
            ("shows", _place(way, many + 1), other))


def _shut_forms(claim, colours):
    _, way, one, other, most = claim
    found = []
    for many in range(1, most + 1):
        for inked in range(1, many + 1):
            found.append(_shut_form(way, one, other, many, inked))
            found.append(_shut_form(way, other, one, many, inked))
    return found


def _fringe_forms(claim, colours):
    _, colour, most = claim
    found = []
    for left in range(most + 1):
        for up in range(most + 1):
            row = [(0, k - left) for k in range(most + 1)]
            column = [(k - up, 0) for k in range(most + 1)]
            found.append(tuple([("shows", cell, colour) for cell in sorted(set(row + column))]))
    return found


def _keeps_forms(claim, colours):
    cells = sorted([(0, 0), *neighbours((0, 0))])
    return [(*[("was", cell, claim[1]) for cell in cells], ("lacks", (0, 0), claim[1]))]


def _true_forms(claim, colours):
    return [(("was", (0, 0), colour), ("lacks", (0, 0), colour)) for colour in (WHITE, *colours)]


FORMS = {
    "never": _never_forms,
    "thick": _thick_forms,
    "narrow": _narrow_forms,
    "shut": _shut_forms,
    "fringe": _fringe_forms,
    "keeps": _keeps_forms,
    "true": _true_forms,
}


def forms(claim, colours):
    told = judged_local(claim)
    palette = judged_palette(colours)
    find = FORMS[told[0]]
    return tuple(find(told, palette))


def _is_met(want, page, picture, rows, columns):
    row, column = want[1]
    cell = (row + rows, column + columns)
    if want[0] == "shows":
        return picture[cell] == want[2]
    if want[0] == "lacks":
        return picture[cell] != want[2]
    if want[0] == "was":
        return page[cell] == want[2]
    return cell in page


def met(form, page, picture, *, rows=0, columns=0):
    """Whether the form, moved by so many rows and columns, is met by the page and the picture."""
    return all([_is_met(want, page, picture, rows, columns) for want in form])
