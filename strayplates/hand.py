"""Hands: what they see of a sheet, how they turn the press, and how it drifts then."""

from strayplates.common import is_number_of, is_tuple, is_within, plain
from strayplates.errors import BadHand, NoLie
from strayplates.looks import judged_looks
from strayplates.words import is_word


def is_turn(thing, press):
    """Whether the thing is a tuple with a pair of integers from -3 to 3 for each box of the press."""
    if not is_tuple(thing, len(press.boxes), len(press.boxes)) or not all([is_tuple(pair, 2, 2) for pair in thing]):
        return False
    return all([is_within(number, -3, 3) for pair in thing for number in pair])


def _is_answer(thing, press, looks):
    """Whether the thing is a pair of a pattern and a turn."""
    if not is_tuple(thing, 2, 2) or not is_tuple(thing[0], len(looks), len(looks)):
        return False
    return all([colour is None or is_word(colour) for colour in thing[0]]) and is_turn(thing[1], press)


def _fits(pattern, sight):
    return all([colour is None or colour == seen for colour, seen in zip(pattern, sight)])


class Hand:
    def __init__(self, press, looks, rows=()):
        self.press = press
        self.looks = judged_looks(looks, 6)
        self.rows = plain(rows)
        if not is_tuple(self.rows, 0, 12):
            raise BadHand(-1)
        for number, row in enumerate(self.rows):
            if not _is_answer(row, press, self.looks):
                raise BadHand(number)

    def __call__(self, sight):
        for pattern, turn in self.rows:
            if _fits(pattern, sight):
                return turn
        return tuple([(0, 0) for _ in self.press.boxes])

    def __len__(self):
        return len(self.rows)

    def __iter__(self):
        return iter(self.rows)

    def __eq__(self, other):
        if not isinstance(other, Hand) or self.press != other.press:
            return False
        return self.looks == other.looks and self.rows == other.rows

    def sight(self, job, number):
        """The colours that the job shows at the looks, at the lie with this number."""
        picture = job.shown(lie_of(job.press, number))
        return tuple([picture[cell] for cell in self.looks])


def lie_of(press, number):
    """The lie with this number."""
    if not is_number_of(number, press.lies):
        raise NoLie(number)
    return press.lies[number]


def _stopped(number, low, high):
    return max(low, min(high, number))


def turned_lie(press, number, turn):
    """The number of the lie to which the turn leads, each number of which stops at the ends of its box."""
    pairs = []
    for (row, column), (rows, columns), box in zip(lie_of(press, number), turn, press.boxes):
        up, down, left, right = box
        pairs.append((_stopped(row + rows, -up, down), _stopped(column + columns, -left, right)))
    return press.number_of(pairs)


def _apart(lie, other):
    """The sum of the absolute values of the differences of all numbers of two lies."""
    pairs = list(zip(lie, other))
    return sum([abs(one[0] - two[0]) + abs(one[1] - two[1]) for one, two in pairs])


def followers(press, number, pace):
    """The numbers of the lies to which the lie with this number can drift."""
    lie = lie_of(press, number)
    return tuple([other for other, there in enumerate(press.lies) if _apart(lie, there) <= pace])
