"""What can be told of a cell when only some cells of the page are told."""

from strayplates.book import inks_of
from strayplates.common import plain
from strayplates.press import shift_in
from strayplates.words import SIDES, WHITE, neighbours

MET = ("met",)
UNMET = ("unmet",)


def _fit(rule, told, cell):
    """Whether the rule, which has the colour of the cell, fits it, or what it needs to tell that."""
    if len(rule) == 2:
        return MET
    _, side, beside, _ = rule
    around = neighbours(cell)
    if side not in ("near", "hemmed"):
        around = (around[SIDES.index(side)],)
    for other in around:
        if other not in told:
            return "needs", other
        if side == "near" and told[other] == beside:
            return MET
        if side != "near" and told[other] != beside:
            return UNMET
    return UNMET if side == "near" else MET


def counting_told(rules, told, cell):
    """Which rule counts at a cell, by a dict of the colours of the cells that are told, or what is needed for this.

    Either ("needs", cell), or ("counts", the number of the rule, or None).
    """
    if cell not in told:
        return "needs", cell
    for number, rule in enumerate(rules):
        if rule[0] == told[cell]:
            fit = _fit(rule, told, cell)
            if fit == MET:
                return "counts", number
            if fit != UNMET:
                return fit
    return "counts", None


def reading(rules, told, cell):
    """How the rules read a cell, by a dict of the colours of the cells that are told."""
    answer = counting_told(rules, told, cell)
    return answer if answer[0] == "needs" else ("prints", inks_of(rules, answer[1]))


def want_by(press, book, lie, told, want):
    """Whether the want is met at a lie of the press, by a dict of the colours of the cells that are told."""
    kind, cell = want[:2]
    if kind in ("was", "inked"):
        if cell not in told:
            return "needs", cell
        fit = told[cell] == want[2] if kind == "was" else told[cell] != WHITE
        return MET if fit else UNMET
    seen = WHITE
    for unit in press.units:
        rows, columns = shift_in(unit, lie)
        answer = reading(book.rules, told, (cell[0] - rows, cell[1] - columns))
        if answer[0] == "needs":
            return answer
        if unit[0] in answer[1]:
            seen = press.shelf.laid(seen, unit[0])
    return MET if (seen == want[2]) == (kind == "shows") else UNMET


def _by_cells(told):
    return {(row, column): colour for row, column, colour in told}


def read_told(book, told, cell):
    return reading(book.rules, _by_cells(told), plain(cell))


def want_told(press, book, lie, told, want):
    true_lie = press.lies[press.number_of(lie)]
    return want_by(press, book, true_lie, _by_cells(told), plain(want))
