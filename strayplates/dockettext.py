"""The lines of pictures, plates and dockets; a docket tells a job, a page and a wish."""

from strayplates.claims import PARTS, is_part, judged_wish
from strayplates.common import Lines, line_of
from strayplates.job import Job
from strayplates.picture import Picture, inked_rows
from strayplates.plate import Plate
from strayplates.shelftext import made_press, told_press, write_press
from strayplates.words import is_hue


def write_picture(picture):
    rows = [line_of(["row", row, column, *colours]) for row, column, colours in inked_rows(picture)]
    return ("picture", *rows, "end")


def write_plate(plate):
    rows = {}
    for row, column in plate:
        rows.setdefault(row, []).append(column)
    return ("plate", *[line_of(["cells", row, *columns]) for row, columns in rows.items()], "end")


def write_docket(job, page, wish):
    claims = [line_of(["claim", *claim]) for claim in judged_wish(wish)]
    plates = [line for plate in job.plates for line in write_plate(plate)]
    return (*write_press(job.press), *plates, *write_picture(page), "wish", *claims, "end")


def _told_picture(walk):
    """The triples of a row, a column and a colour that lines tell."""
    walk.head(("picture",))
    walk.close()
    found = []
    while walk.head(("row", "end")) == "row":
        row = walk.integer(-50, 50)
        column = walk.integer(-50, 50)
        colours = walk.some(is_hue, 1, 20)
        found = found + [(row, column + k, colour) for k, colour in enumerate(colours)]
    walk.close()
    return found


def _told_plate(walk):
    """The cells that lines tell."""
    walk.head(("plate",))
    walk.close()
    found = []
    while walk.head(("cells", "end")) == "cells":
        row = walk.integer(-50, 50)
        columns = [walk.integer(-50, 50)]
        while walk.has_more() and len(columns) < 101:
            columns.append(walk.integer(-50, 50))
        walk.close()
        found = found + [(row, column) for column in columns]
    walk.close()
    return found


def _is_kind(word):
    return word in PARTS


def _told_claim(walk):
    """The claim that the rest of a line tells."""
    claim = [walk.take(_is_kind)]
    for part in PARTS[claim[0]]:
        if isinstance(part, tuple):
            low, high = part
            told = walk.integer(low, high)
        else:
            told = walk.take(lambda word: is_part(part, word, claim))
        claim = [*claim, told]
    walk.close()
    return tuple(claim)


def _told_wish(walk):
    walk.head(("wish",))
    walk.close()
    claims = []
    while walk.head(("claim", "end")) == "claim":
        claims.append(_told_claim(walk))
    walk.close()
    return tuple(claims)


def read_picture(lines):
    walk = Lines(lines)
    cells = _told_picture(walk)
    walk.end()
    return Picture(cells)


def read_plate(lines):
    walk = Lines(lines)
    cells = _told_plate(walk)
    walk.end()
    return Plate(cells)


def read_docket(lines):
    walk = Lines(lines)
    told = told_press(walk)
    plates = []
    while walk.first_word() == "plate":
        plates.append(_told_plate(walk))
    cells = _told_picture(walk)
    claims = _told_wish(walk)
    walk.end()
    press = made_press(told)
    made = [Plate(plate) for plate in plates]
    page = Picture(cells)
    return Job(press, made), page, judged_wish(claims)
