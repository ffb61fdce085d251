"""Pictures, and the runs, pieces and holes in them."""

from strayplates.common import is_tuple, is_within, plain
from strayplates.errors import BadPicture, NoColour
from strayplates.words import WHITE, is_cell, is_hue, neighbours


def _is_inked(triple):
    if not is_tuple(triple, 3, 3):
        return False
    row, column, colour = triple
    return is_within(row, -50, 50) and is_within(column, -50, 50) and is_hue(colour)


class Picture:
    def __init__(self, cells=()):
        told = plain(cells)
        if not is_tuple(told, 0, 200):
            raise BadPicture(-1)
        for number, triple in enumerate(told):
            if not _is_inked(triple) or (number > 0 and told[number - 1][:2] >= triple[:2]):
                raise BadPicture(number)
        self.cells = told
        self._colours = {(row, column): colour for row, column, colour in told}

    @classmethod
    def of(cls, rows, *, top=0, left=0):
        """The picture of rows of colours, the first colour of which is at (top, left)."""
        told = {}
        for down, row in enumerate(rows):
            for right, colour in enumerate(row):
                told[(top + down, left + right)] = colour
        return picture_of(told)

    @property
    def hues(self):
        return tuple(sorted(set([colour for _, _, colour in self.cells])))

    @property
    def box(self):
        if self.cells == ():
            return None
        rows = [row for row, _, _ in self.cells]
        columns = [column for _, column, _ in self.cells]
        top, left = min(rows), min(columns)
        return top, left, max(rows) - top + 1, max(columns) - left + 1

    def __getitem__(self, at):
        if at not in self:
            return WHITE
        return self._colours[(at[0], at[1])]

    def __contains__(self, x):
        return is_cell(x) and (x[0], x[1]) in self._colours

    def __len__(self):
        return len(self.cells)

    def __iter__(self):
        return iter(self.cells)

    def __eq__(self, other):
        return isinstance(other, Picture) and self.cells == other.cells

    def moved(self, rows, columns):
        return picture_of({(row + rows, column + columns): colour for row, column, colour in self.cells})

    def turned(self, height, width):
        """The picture in which what was at (r, c) is at (height - 1 - r, width - 1 - c)."""
        return picture_of({(height - 1 - row, width - 1 - column): colour for row, column, colour in self.cells})


def picture_of(colours):
    """The picture of a dict of colours by their cells, white ones too, whatever its size."""
    made = Picture()
    made.cells = tuple([(cell[0], cell[1], colours[cell]) for cell in sorted(colours) if colours[cell] != WHITE])
    made._colours = {(row, column): colour for row, column, colour in made.cells}
    return made


def along(way, line, place):
    """The cell at a place of a line: of a row for `across`, of a column for `down`."""
    return (line, place) if way == "across" else (place, line)


def cells_of_run(way, run):
    row, column, length = run
    if way == "across":
        return [(row, column + k) for k in range(length)]
    return [(row + k, column) for k in range(length)]


def _lines(picture, way):
    """For each line that has inked cells, the pairs of their places and colours, ascending."""
    lines = {}
    for row, column, colour in picture.cells:
        line, place = along(way, row, column)
        lines.setdefault(line, []).append((place, colour))
    return lines


def _stretches(line, colour):
    """The first places and the lengths of the runs of the colour in a line."""
    found = []
    for place, hue in line:
        if hue != colour:
            continue
        if found and found[-1][0] + found[-1][1] == place:
            found[-1] = (found[-1][0], found[-1][1] + 1)
        else:
            found.append((place, 1))
    return found


def runs(picture, way, colour):
    if not is_hue(colour):
        raise NoColour(colour)
    found = []
    for number, line in _lines(picture, way).items():
        for place, length in _stretches(line, colour):
            found.append((*along(way, number, place), length))
    return tuple(sorted(found))


def white_runs(picture, way):
    """The runs of white that have two ends, as `runs` tells those of another colour."""
    found = []
    for number, line in _lines(picture, way).items():
        places = [place for place, _ in line]
        for low, high in zip(places[:-1], places[1:]):
            if high - low > 1:
                found.append((*along(way, number, low + 1), high - low - 1))
    return tuple(sorted(found))


def inked_rows(picture):
    """The largest rows of inked cells side by side, in parts of at most 20 cells: first cells and colours."""
    rows = []
    for row, column, colour in picture:
        last = rows[-1] if rows else None
        if last is not None and last[0] == row and last[1] + len(last[2]) == column and len(last[2]) < 20:
            rows[-1] = (row, last[1], (*last[2], colour))
        else:
            rows.append((row, column, (colour,)))
    return rows


def _groups(links):
    """The keys of a dict of links, parted into lists of those that are linked, also by others."""
    met = {}
    found = []
    for first in links:
        if first in met:
            continue
        met[first] = True
        group = [first]
        at = 0
        while at < len(group):
            here = group[at]
            at += 1
            for other in links[here]:
                if other not in met:
                    met[other] = True
                    group.append(other)
        found.append(group)
    return found


def pieces(picture, colour):
    if not is_hue(colour):
        raise NoColour(colour)
    cells = {(row, column): True for row, column, hue in picture.cells if hue == colour}
    links = {cell: [other for other in neighbours(cell) if other in cells] for cell in cells}
    return tuple(sorted([tuple(sorted(group)) for group in _groups(links)]))


def _leaks(run, ends):
    """Whether a run of white across lies beside a cell of an endless one in the row above or below."""
    row, column, length = run
    for other in (row - 1, row + 1):
        if other not in ends or column < ends[other][0] or column + length - 1 > ends[other][1]:
            return True
    return False


def _touching(run, others):
    """Those of the runs of a row that have a cell above or below a cell of the run."""
    _, column, length = run
    return [other for other in others if other[1] < column + length and column < other[1] + other[2]]


def holes(picture):
    # Whole runs of white are gone through, not their cells, as inked cells can lie far apart.
    ends = {row: (line[0][0], line[-1][0]) for row, line in _lines(picture, "across").items()}
    rows = {row: [] for row in ends}
    for run in white_runs(picture, "across"):
        rows[run[0]].append(run)
    links = {}
    for row in rows:
        beside = rows.get(row - 1, []) + rows.get(row + 1, [])
        for run in rows[row]:
            links[run] = _touching(run, beside)
    found = []
    for group in _groups(links):
        if not any([_leaks(run, ends) for run in group]):
            found.append(tuple(sorted([cell for run in group for cell in cells_of_run("across", run)])))
    return tuple(sorted(found))
