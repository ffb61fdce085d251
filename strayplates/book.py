"""Books: rows of local rules that tell which inks are printed at a cell of a page."""

from strayplates.common import is_ascending, is_number_of, is_tuple, plain
from strayplates.errors import BadRule, NoRule
from strayplates.job import Job
from strayplates.plate import plate_of
from strayplates.words import SIDES, WHITE, is_hue, is_word, neighbours


def _are_inks(inks):
    return is_tuple(inks, 0, 5) and all([is_word(name) for name in inks]) and is_ascending(inks)


def is_rule(rule):
    if is_tuple(rule, 2, 2):
        return is_hue(rule[0]) and _are_inks(rule[1])
    if not is_tuple(rule, 4, 4):
        return False
    colour, side, beside, inks = rule
    if not is_word(colour) or not is_word(beside) or (colour == WHITE and beside == WHITE):
        return False
    return isinstance(side, str) and side in SIDES and _are_inks(inks)


def fits(rule, here, around):
    """Whether the rule fits a cell of the colour `here` whose neighbours have the colours `around`."""
    if rule[0] != here:
        return False
    if len(rule) == 2:
        return True
    _, side, beside, _ = rule
    if side == "near":
        return beside in around
    if side == "hemmed":
        return all([colour == beside for colour in around])
    return around[SIDES.index(side)] == beside


def counting_rule(rules, here, around):
    """The number of the first rule that fits, or None."""
    for number, rule in enumerate(rules):
        if fits(rule, here, around):
            return number
    return None


def inks_of(rules, number):
    """The inks that are printed where the rule with this number counts, none where it is None."""
    return () if number is None else rules[number][-1]


def inks_by(rules, here, around):
    """The inks that the rules print at such a cell."""
    return inks_of(rules, counting_rule(rules, here, around))


class Book:
    def __init__(self, rules=()):
        told = plain(rules)
        if not is_tuple(told, 0, 12):
            raise BadRule(-1)
        for number, rule in enumerate(told):
            if not is_rule(rule):
                raise BadRule(number)
        self.rules = told

    @property
    def names(self):
        return tuple(sorted(set([name for rule in self.rules for name in rule[-1]])))

    def __getitem__(self, at):
        if not is_number_of(at, self.rules):
            raise NoRule(at)
        return self.rules[at]

    def __len__(self):
        return len(self.rules)

    def __iter__(self):
        return iter(self.rules)

    def __eq__(self, other):
        return isinstance(other, Book) and self.rules == other.rules

    def __add__(self, other):
        return Book(self.rules + other.rules)

    def but(self, number):
        """The book without the rule with this number."""
        if not is_number_of(number, self.rules):
            raise NoRule(number)
        return Book(self.rules[:number] + self.rules[number + 1:])

    def counting(self, page, cell):
        """The number of the rule that counts at this cell, or None."""
        return counting_rule(self.rules, page[cell], [page[other] for other in neighbours(cell)])

    def inks_at(self, page, cell):
        return inks_of(self.rules, self.counting(page, cell))

    def made(self, press, page):
        """The job that the book makes of the page for the press."""
        cells = {(row, column): True for row, column, _ in page}
        # A rule fits a white cell only beside a colour, so no cell further off is printed.
        for cell in list(cells):
            for other in neighbours(cell):
                cells[other] = True
        inks = {cell: self.inks_at(page, cell) for cell in cells}
        return Job(press, [plate_of([cell for cell in inks if name in inks[cell]]) for name, _ in press.units])
