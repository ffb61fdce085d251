"""What any hand can know of the present lie, by what it has seen and done."""

from strayplates.common import Finding, Walk, are_integers, is_ascending, is_number_of, is_tuple, plain
from strayplates.course import judged_pace
from strayplates.errors import BadLot, BadTurns, NoLot, NoPart
from strayplates.hand import followers, is_turn, turned_lie
from strayplates.looks import judged_looks, sights_of


def judged_turns(turns, press):
    told = plain(turns)
    if not is_tuple(told, 1, 8):
        raise BadTurns(-1)
    for number, turn in enumerate(told):
        if not is_turn(turn, press) or turn in told[:number]:
            raise BadTurns(number)
    return told


def is_lot(thing, press):
    """Whether the thing is an ascending tuple of numbers of lies."""
    if not are_integers(thing) or not is_ascending(thing):
        return False
    return all([is_number_of(number, press.lies) for number in thing])


def judged_first(first, press):
    told = plain(first)
    if not is_lot(told, press) or told == ():
        raise BadLot(first)
    return told


class Drifts:
    """To which lies a press can drift behind each of some turns."""

    def __init__(self, press, turns, pace):
        numbers = range(len(press.lies))
        # A lot of lies is put together as an integer with a bit for each lie, as many lots come up many times.
        near = [sum([1 << other for other in followers(press, number, pace)]) for number in numbers]
        self._near = [[near[turned_lie(press, number, turn)] for number in numbers] for turn in turns]
        self._lots = {}

    def behind(self, part):
        """For each turn, the lot of the lies to which some lie of the part, turned, can drift."""
        return tuple([self._lot_of(near, part) for near in self._near])

    def _lot_of(self, near, part):
        bits = 0
        for number in part:
            bits = bits | near[number]
        if bits not in self._lots:
            self._lots[bits] = tuple([number for number in range(len(near)) if (bits >> number) & 1 == 1])
        return self._lots[bits]


class LotWalk(Walk):
    """The lots of lies that a hand with these sights of all lies can know, from the first one."""

    def __init__(self, first, sights, drifts):
        self.start = first
        self._sights = sights
        self._drifts = drifts

    def parts(self, lot):
        """The lies of the lot by their sights, in the order of their first lies."""
        found = {}
        for number in lot:
            found.setdefault(self._sights[number], []).append(number)
        return tuple([tuple(found[sight]) for sight in found])

    def nexts(self, lot):
        """For each part of the lot the next lots, one for each turn."""
        return tuple([self._drifts.behind(part) for part in self.parts(lot)])

    def moves(self, lot):
        return [(None, None, follow) for follows in self.nexts(lot) for follow in follows]


class Lots:
    """All lots of a walk in the order of finding, and the numbers of the next ones by parts and turns."""

    def __init__(self, walk):
        self.walk = walk
        self.lots = tuple(Finding(walk, 300, "lot").standings)
        self._numbers = {lot: number for number, lot in enumerate(self.lots)}
        self.leads = tuple([self._next_numbers(lot) for lot in self.lots])

    def _next_numbers(self, lot):
        return tuple([tuple([self._numbers[follow] for follow in follows]) for follows in self.walk.nexts(lot)])


class Known:
    def __init__(self, job, looks, turns, *, pace=1, first=(0,)):
        self.job = job
        self.looks = judged_looks(looks, 6)
        self.turns = judged_turns(turns, job.press)
        self.pace = judged_pace(pace)
        start = judged_first(first, job.press)
        self._lots = Lots(LotWalk(start, sights_of(job, self.looks), Drifts(job.press, self.turns, self.pace)))
        self.table = self._lots.lots

    def __len__(self):
        return len(self.table)

    def __iter__(self):
        return iter(self.table)

    def nexts(self, number):
        """For each part of the lot with this number the numbers of the next lots, one for each turn."""
        if not is_number_of(number, self.table):
            raise NoLot(number)
        return self._lots.leads[number]

    def parts(self, number):
        """The parts of the lot with this number."""
        if not is_number_of(number, self.table):
            raise NoLot(number)
        return self._lots.walk.parts(self.table[number])

    def after(self, number, part, turn):
        """The number of the next lot, by the numbers of a part that is left and of a turn that is made."""
        follows = self.nexts(number)
        if not is_number_of(part, follows):
            raise NoPart(part)
        if not is_number_of(turn, self.turns):
            raise NoPart(turn)
        return follows[part][turn]
