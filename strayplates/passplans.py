"""Plans of passes, and whether a local claim holds with them for all pages."""

from strayplates.cases import Cases
from strayplates.claims import judged_local
from strayplates.common import are_integers, is_tuple, is_within, plain
from strayplates.errors import BadMost, BadOrder, BadPress
from strayplates.press import Press, is_box
from strayplates.words import judged_palette


def _are_names(names, shelf):
    if not is_tuple(names, 1, 4):
        return False
    return all([name in shelf and name not in names[:number] for number, name in enumerate(names)])


def _plans(many, most):
    """All plans of so many inks, of which at most so many have the same pass, in order."""
    plans = [(0,)]
    for _ in range(many - 1):
        plans = [(*plan, turn) for plan in plans for turn in (plan[-1], plan[-1] + 1) if turn <= 2]
    fit = [plan for plan in plans if all([plan.count(turn) <= most for turn in plan])]
    return [plan for _, plan in sorted([(plan[-1], plan) for plan in fit])]


class PassPlans:
    def __init__(self, shelf, names, box, most, book, colours, claim):
        inks, told_box = plain(names), plain(box)
        if not _are_names(inks, shelf):
            raise BadPress("units")
        if not is_box(told_box):
            raise BadPress("boxes")
        if not is_within(most, 1, 4):
            raise BadMost(most)
        palette = judged_palette(colours)
        told = judged_local(claim)
        self._presses = {}
        rows = []
        for plan in _plans(len(inks), most):
            press = Press(shelf, list(zip(inks, plan)), [told_box for _ in range(plan[-1])])
            rows.append((plan, Cases(press, book, palette, told).broken_page))
            self._presses[plan] = press
        self.table = tuple(rows)
        holding = [plan for plan, page in rows if page is None]
        self.best = holding[0] if holding else None

    def __bool__(self):
        return self.best is not None

    def __len__(self):
        return len(self.table)

    def __iter__(self):
        return iter(self.table)

    def press_of(self, plan):
        told = plain(plan)
        if not are_integers(told) or told not in self._presses:
            raise BadOrder(plan)
        return self._presses[told]
