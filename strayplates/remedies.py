"""Further rules that mend a book, so that a local claim holds for all pages."""

from strayplates.book import Book, is_rule
from strayplates.cases import Cases
from strayplates.claims import judged_local
from strayplates.common import are_integers, is_tuple, least_lots, lots, plain
from strayplates.errors import BadLot, BadMenu, TooMany
from strayplates.words import judged_palette


def _judged_rules(rules):
    told = plain(rules)
    if not is_tuple(told, 0, 4):
        raise BadMenu(-1)
    for number, rule in enumerate(told):
        if not is_rule(rule):
            raise BadMenu(number)
    return told


class Remedies:
    def __init__(self, press, book, colours, claim, rules):
        palette = judged_palette(colours)
        told = judged_local(claim)
        menu = _judged_rules(rules)
        if len(book) + len(menu) > 12:
            raise TooMany("rule")
        self._books = {lot: Book([menu[number] for number in lot]) + book for lot in lots(len(menu))}
        self.table = tuple([(lot, Cases(press, self._books[lot], palette, told).broken_page) for lot in self._books])
        self._serving = {lot: True for lot, page in self.table if page is None}
        self._least = least_lots(list(self._serving))

    def __bool__(self):
        return bool(self._least)

    def __len__(self):
        return len(self._least)

    def __iter__(self):
        return iter(self._least)

    def __contains__(self, x):
        lot = plain(x)
        return are_integers(lot) and lot in self._serving

    def mended(self, lot):
        """The book with the rules of the lot ahead of its own ones."""
        told = plain(lot)
        if not are_integers(told) or told not in self._books:
            raise BadLot(lot)
        return self._books[told]
