"""Orders of inks, and which colours can be shown by them."""

from strayplates.common import is_number_of, is_tuple, lots, plain
from strayplates.errors import BadColours, BadOrder
from strayplates.words import WHITE, is_word


def _is_order(order, shelf):
    if not isinstance(order, tuple):
        return False
    return all([is_number_of(number, shelf) and number not in order[:k] for k, number in enumerate(order)])


def ways(shelf, order, colour):
    """All parts of the order that are stacks of the colour."""
    told = plain(order)
    if not _is_order(told, shelf):
        raise BadOrder(order)
    found = []
    for lot in lots(len(told)):
        way = tuple([told[k] for k in lot])
        if shelf.stack([shelf.names[number] for number in way]) == colour:
            found.append((len(way), way))
    return tuple([way for _, way in sorted(found)])


def _judged_wishes(wishes):
    told = plain(wishes)
    if not is_tuple(told, 1, 6):
        raise BadColours(-1)
    for number, colour in enumerate(told):
        if not is_word(colour) or colour in told[:number]:
            raise BadColours(number)
    return told


def _longer(shelf, level):
    """The orders with one ink more, in order, and the colours that their parts show, from those of the shorter."""
    longer = {}
    for order, shown in level.items():
        for number, name in enumerate(shelf.names):
            if number not in order:
                further = {colour: True for colour in shown}
                for colour in shown:
                    further[shelf.laid(colour, name)] = True
                longer[order + (number,)] = further
    return longer


def _first_missing(wishes, shown):
    """The first wish that is not shown, or None."""
    for wish in wishes:
        if wish not in shown:
            return wish
    return None


class Palette:
    def __init__(self, shelf, wishes):
        told = _judged_wishes(wishes)
        rows = []
        self.order = None
        level = {(): {WHITE: True}}
        while level and self.order is None:
            missing = [(order, _first_missing(told, shown)) for order, shown in level.items()]
            showing = [order for order, wish in missing if wish is None]
            if showing:
                self.order = showing[0]
            else:
                rows = rows + missing
                level = _longer(shelf, level)
        self.table = tuple(rows)

    def __bool__(self):
        return self.order is not None

    def __len__(self):
        return len(self.table)

    def __iter__(self):
        return iter(self.table)
