"""What several modules share: kinds of things, tuples for lists, lots, lines, and the order of finding."""

from strayplates.errors import BadLine, TooMany


def plain(thing):
    """The thing with a tuple in the place of each list, at any depth."""
    if isinstance(thing, (list, tuple)):
        return tuple([plain(part) for part in thing])
    return thing


def is_integer(thing):
    return isinstance(thing, int) and not isinstance(thing, bool)


def is_within(thing, low, high):
    """Whether the thing is an integer from low to high."""
    return is_integer(thing) and low <= thing <= high


def is_number_of(thing, row):
    """Whether the thing is the number of one of the things of a row."""
    return is_within(thing, 0, len(row) - 1)


def is_tuple(thing, least, most):
    """Whether the thing is a tuple of so many things."""
    return isinstance(thing, tuple) and least <= len(thing) <= most


def is_ascending(things):
    return all([things[k] < things[k + 1] for k in range(len(things) - 1)])


def are_integers(thing):
    """Whether the thing is a tuple of integers."""
    return isinstance(thing, tuple) and all([is_integer(part) for part in thing])


def lots(many):
    """All lots of the numbers below many, in order."""
    found = [()]
    level = [()]
    for _ in range(many):
        level = [lot + (k,) for lot in level for k in range(many) if lot == () or lot[-1] < k]
        found = found + level
    return found


def least_lots(serving):
    """Those of the lots, told in order, of which no part is among them."""
    least = []
    for lot in serving:
        if not any([all([k in lot for k in part]) for part in least]):
            least.append(lot)
    return tuple(least)


def line_of(words):
    """The line of these words; integers are told by their signs."""
    return " ".join([str(word) for word in words])


def _integer_of(word, low, high):
    """The integer from low to high that the word tells, or None."""
    signs = word[1:] if word.startswith("-") else word
    if signs == "" or not all([sign in "0123456789" for sign in signs]):
        return None
    if signs[0] == "0" and word != "0":
        return None
    number = int(word)
    return number if low <= number <= high else None


class Lines:
    """Lines that are read word by word, up to the first word that cannot stand where it stands."""

    def __init__(self, lines):
        self._lines = list(lines)
        self._words = []
        self._line = -1
        self._word = 0

    def first_word(self):
        """The first word of the next line, which is not begun by this; None if it has none."""
        ahead = self._lines[self._line + 1:self._line + 2]
        return ahead[0].split(" ")[0] if ahead and isinstance(ahead[0], str) else None

    def begin(self):
        self._line += 1
        self._word = 0
        if self._line == len(self._lines) or not isinstance(self._lines[self._line], str):
            raise BadLine(self._line, 0)
        self._words = self._lines[self._line].split(" ")

    def has_more(self):
        """Whether the line has words that are not read so far."""
        return self._word < len(self._words)

    def take(self, accepts):
        """The next word, one that is accepted."""
        if not self.has_more() or not accepts(self._words[self._word]):
            raise BadLine(self._line, self._word)
        self._word += 1
        return self._words[self._word - 1]

    def integer(self, low, high):
        return int(self.take(lambda word: _integer_of(word, low, high) is not None))

    def some(self, accepts, least, most):
        """All other words of the line, so many that are accepted."""
        found = []
        while len(found) < least or (len(found) < most and self.has_more()):
            found.append(self.take(accepts))
        self.close()
        return tuple(found)

    def head(self, words):
        """Begins the next line, and returns its first word, which is one of these."""
        self.begin()
        return self.take(lambda word: word in words)

    def close(self):
        """Ends a line that has no further word."""
        if self.has_more():
            raise BadLine(self._line, self._word)

    def end(self):
        """Ends lines behind which there is no further one."""
        if self._line + 1 < len(self._lines):
            raise BadLine(self._line + 1, 0)


class Walk:
    """What can be gone over in the order of finding.

    A walk has the standing `start`, and for each standing `moves`: triples of a step, what is told of
    it, and the standing that follows, None if the step breaks what is claimed.
    """

    def fails(self, standing):
        """Whether what is claimed is broken when this standing is found."""
        return False


class Finding:
    """The standings of a walk in the order of finding, up to the first step that breaks its claim.

    With None as `most` there can be any number of standings; `word` tells what there are too many of.
    """

    def __init__(self, walk, most, word="standing"):
        self.standings = [walk.start]
        self.broken = None
        self._word = word
        self._ahead = {walk.start: None}
        at = 0
        while self.broken is None and at < len(self.standings):
            self._expand(walk, self.standings[at], most)
            at += 1

    def _expand(self, walk, standing, most):
        for step, told, follow in walk.moves(standing):
            if follow is None:
                self.broken = (standing, step, told)
                return
            if follow not in self._ahead:
                if len(self.standings) == most:
                    raise TooMany(self._word)
                self._ahead[follow] = (standing, step, told)
                self.standings.append(follow)
                if walk.fails(follow):
                    self.broken = (standing, step, told)
                    return

    def told_steps(self):
        """The pairs of a step and what is told of it, up to the step that breaks the claim."""
        return self._told_up_to(self.broken)

    def steps_to(self, standing):
        """The steps by which this standing was found first."""
        return tuple([step for step, _ in self._told_up_to(self._ahead[standing])])

    def _told_up_to(self, last):
        back = []
        link = last
        while link is not None:
            standing, step, told = link
            back.append((step, told))
            link = self._ahead[standing]
        return back[::-1]


def judge_closed(walk, table, barred=None):
    """None if the table of standings is closed, -1 or the number of the first row that is not right.

    As a whole the table fails if the start of the walk is not in it, or if the barred standing is.
    """
    rows = plain(table)
    if not isinstance(rows, tuple):
        return -1
    formed = [walk.has_form(row) for row in rows]
    known = {row: True for row, fit in zip(rows, formed) if fit}
    if walk.start not in known or barred in known:
        return -1
    for number, row in enumerate(rows):
        if not formed[number] or walk.fails(row) or not _is_closed(walk, row, known):
            return number
    return None


def _is_closed(walk, row, known):
    for _, _, follow in walk.moves(row):
        if follow not in known:
            return False
    return True
