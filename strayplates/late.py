"""Inks that can be mixed late, of two other inks of a press."""

from strayplates.common import lots
from strayplates.errors import Unlike
from strayplates.job import Job
from strayplates.press import Press


def _colour_of(press, lot):
    """The colour of the stack of the inks of a lot of units."""
    return press.shelf.stack([press.names[number] for number in lot])


class LateMix:
    def __init__(self, press, name, first, second):
        mixed, one, other = [press.unit_of(ink) for ink in (name, first, second)]
        if mixed == one or mixed == other or one == other:
            raise Unlike("inks")
        self._elder = press
        self._numbers = (mixed, one, other)
        self.lot = None
        for lot in lots(len(press)):
            late = sorted(set([one, other, *[number for number in lot if number != mixed]]))
            if mixed in lot and self.lot is None and _colour_of(press, lot) != _colour_of(press, late):
                self.lot = lot
        units = [unit for number, unit in enumerate(press.units) if number != mixed]
        self.press = Press(press.shelf, units, press.boxes)

    def __bool__(self):
        return self.lot is None

    def mixed(self, job):
        """The job on the changed press."""
        if job.press != self._elder:
            raise Unlike("press")
        mixed, one, other = self._numbers
        plates = list(job.plates)
        for number in (one, other):
            plates[number] = plates[number] + plates[mixed]
        del plates[mixed]
        return Job(self.press, plates)
