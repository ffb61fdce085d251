"""Printing orders of a press, and whether a local claim holds in them for all pages."""

from strayplates.cases import Cases
from strayplates.claims import judged_local
from strayplates.common import are_integers, plain
from strayplates.errors import BadOrder, TooMany
from strayplates.press import Press
from strayplates.words import judged_palette


def _orders(many):
    """All orders of the numbers below many, as tuples compare."""
    orders = [()]
    for _ in range(many):
        orders = [(*order, number) for order in orders for number in range(many) if number not in order]
    return orders


class Orders:
    def __init__(self, press, book, colours, claim):
        palette = judged_palette(colours)
        told = judged_local(claim)
        if len(press) > 3:
            raise TooMany("order")
        self._presses = {}
        for order in _orders(len(press)):
            self._presses[order] = Press(press.shelf, [press.units[number] for number in order], press.boxes)
        rows = [(order, Cases(turned, book, palette, told).broken_page) for order, turned in self._presses.items()]
        self.table = tuple(rows)
        holding = [order for order, page in rows if page is None]
        self.best = holding[0] if holding else None

    def __bool__(self):
        return self.best is not None

    def __len__(self):
        return len(self.table)

    def __iter__(self):
        return iter(self.table)

    def press_of(self, order):
        """The press whose units stand in this order."""
        told = plain(order)
        if not are_integers(told) or told not in self._presses:
            raise BadOrder(order)
        return self._presses[told]
