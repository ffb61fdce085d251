"""Plans: which rows of motifs are designs."""

from strayplates.common import is_ascending, is_tuple, plain
from strayplates.errors import BadDesign, BadPlan
from strayplates.words import WHITE, is_cell, is_word

BEGINNING = (-1, 0)
END = (-2, 0)


def _is_motif(motif):
    if not is_tuple(motif, 2, 2):
        return False
    name, tape = motif
    return is_word(name) and is_tuple(tape, 1, 6) and all([is_word(colour) for colour in tape])


def _are_motifs(motifs):
    if not is_tuple(motifs, 1, 6) or not all([_is_motif(motif) for motif in motifs]):
        return False
    return len(set([name for name, _ in motifs])) == len(motifs)


def _are_names(thing, names):
    """Whether the thing is a tuple of some of the names."""
    return isinstance(thing, tuple) and all([isinstance(name, str) and name in names for name in thing])


def _are_joints(joints, names):
    if not isinstance(joints, tuple) or not all([is_tuple(joint, 2, 2) for joint in joints]):
        return False
    return all([_are_names(joint, names) for joint in joints]) and is_ascending(joints)


def _reached(names, pairs):
    """The names, and those to which pairs lead from them, however far."""
    found = list(names)
    at = 0
    while at < len(found):
        here = found[at]
        found = found + [other for name, other in pairs if name == here and other not in found]
        at += 1
    return found


class Plan:
    def __init__(self, motifs, joints=(), first=(), last=()):
        self.motifs = plain(motifs)
        if not _are_motifs(self.motifs):
            raise BadPlan("motifs")
        self._names = [name for name, _ in self.motifs]
        self.joints = plain(joints)
        if not _are_joints(self.joints, self._names):
            raise BadPlan("joints")
        self.first = plain(first)
        if not _are_names(self.first, self._names) or not is_ascending(self.first):
            raise BadPlan("first")
        self.last = plain(last)
        if not _are_names(self.last, self._names) or not is_ascending(self.last):
            raise BadPlan("last")
        begun = _reached(self.first, self.joints)
        ended = _reached(self.last, [(other, name) for name, other in self.joints])
        self._live = tuple([name for name in self._names if name in begun and name in ended])

    @property
    def live(self):
        return self._live

    def __len__(self):
        return len(self.motifs)

    def __iter__(self):
        return iter(self.motifs)

    def __eq__(self, other):
        if not isinstance(other, Plan) or self.motifs != other.motifs or self.joints != other.joints:
            return False
        return self.first == other.first and self.last == other.last

    def __contains__(self, x):
        design = plain(x)
        if not _are_names(design, self._names) or design == ():
            return False
        if design[0] not in self.first or design[-1] not in self.last:
            return False
        return all([pair in self.joints for pair in zip(design[:-1], design[1:])])

    def tape_of(self, design):
        """The tapes of these motifs, one behind the other."""
        told = plain(design)
        if not is_tuple(told, 0, 30):
            raise BadDesign(-1)
        found = ()
        for number, name in enumerate(told):
            if not _are_names((name,), self._names):
                raise BadDesign(number)
            found = found + self.motifs[self._names.index(name)][1]
        return found

    def is_place(self, thing):
        if not is_cell(thing):
            return False
        if thing in (BEGINNING, END):
            return True
        return 0 <= thing[0] < len(self.motifs) and 1 <= thing[1] <= len(self.motifs[thing[0]][1])

    def names_begun(self, places):
        """The names of the motifs that are begun in a row of places, in order."""
        return tuple([self.motifs[motif][0] for motif, known in places if known == 1])

    def can_end(self, place):
        """Whether a design can end behind this place."""
        return END in self.follows(place)

    def follows(self, place):
        """The next places, in order."""
        motif, known = place
        if motif == END[0]:
            return (END,)
        if motif == BEGINNING[0]:
            return self._begun_by([name for name in self._live if name in self.first])
        name, tape = self.motifs[motif]
        if known < len(tape):
            return ((motif, known + 1),)
        begun = self._begun_by([other for other in self._live if (name, other) in self.joints])
        return (END, *begun) if name in self.last else begun

    def _begun_by(self, names):
        """The first places of these motifs, told in the order of the motifs."""
        return tuple([(self._names.index(name), 1) for name in names])

    def colour_of(self, place):
        motif, known = place
        return WHITE if motif == END[0] else self.motifs[motif][1][known - 1]

    def designs(self, most):
        """All designs of at most so many motifs, by their length, and then by the numbers of their motifs."""
        rows = [(name,) for name in self._live if name in self.first]
        for _ in range(most):
            for row in rows:
                if row[-1] in self.last:
                    yield row
            rows = [(*row, name) for row in rows for name in self._live if (row[-1], name) in self.joints]

    def without(self, *joints):
        """The plan without these joints."""
        told = plain(joints)
        if not all([joint in self.joints for joint in told]):
            raise BadPlan("joints")
        kept = [joint for joint in self.joints if joint not in told]
        return Plan(self.motifs, kept, self.first, self.last)
