"""Plates that can be remade from a pull and the other plates, for all jobs on a press."""

from strayplates.lost import Others, judged_unit, told_by_lots
from strayplates.plate import plate_of


class Remake:
    def __init__(self, press, number):
        self._number = judged_unit(number, press)
        self._press = press
        self.table = told_by_lots(press, number)

    def __bool__(self):
        return all([inked != bare for _, inked, bare in self.table])

    def __len__(self):
        return len(self.table)

    def __iter__(self):
        return iter(self.table)

    def remade(self, job, lie, pull):
        """The plate that fits the pull at this lie, with the other plates of the job, if there is just one."""
        true_lie = self._press.lies[self._press.number_of(lie)]
        reading = Others(job, self._number).reading(true_lie, pull)
        if reading is None or reading.may:
            return None
        return plate_of(list(reading.must))
