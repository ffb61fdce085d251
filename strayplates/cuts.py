"""Cuts through a sheet, which part the copies of a layout."""


def _parts(layout, lot, way, number):
    """The copies of the lot above or to the left of a line, and the other ones; None if it passes through a box."""
    low, high = [], []
    for copy in lot:
        top, left, _ = layout[copy]
        first, size = (top, layout.height) if way == "across" else (left, layout.width)
        if first >= number:
            high.append(copy)
        elif first + size <= number:
            low.append(copy)
        else:
            return None
    return tuple(low), tuple(high)


def first_cut(layout, lot):
    """The first cut that parts the lot of copies, or None."""
    for way in ("across", "down"):
        ends = [layout[copy][0] + layout.height if way == "across" else layout[copy][1] + layout.width for copy in lot]
        # The first line between two parts lies directly behind the boxes of the first one.
        for number in sorted(set(ends)):
            parts = _parts(layout, lot, way, number)
            if parts is not None and () not in parts:
                return way, number
    return None


def _cut_through(layout, lot):
    """The blocks that come of a lot, and the steps by which it is parted."""
    cut = first_cut(layout, lot)
    if cut is None:
        return [lot], []
    blocks, steps = [], [(lot, cut)]
    for part in _parts(layout, lot, *cut):
        further, more = _cut_through(layout, part)
        blocks = blocks + further
        steps = steps + more
    return blocks, steps


class Cuts:
    def __init__(self, layout):
        blocks, steps = _cut_through(layout, tuple(range(len(layout))))
        self.blocks = tuple(sorted(blocks))
        self.parting = tuple(steps)

    def __bool__(self):
        return all([len(block) == 1 for block in self.blocks])

    def __len__(self):
        return len(self.blocks)

    def __iter__(self):
        return iter(self.blocks)
