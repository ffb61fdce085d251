"""Readers: row claims, read along a tape column by column."""

from strayplates.claims import is_row_claim
from strayplates.common import plain
from strayplates.errors import BadClaim
from strayplates.words import WHITE


class Reader:
    BROKEN = -1

    def __init__(self, claim):
        if not is_row_claim(claim):
            raise BadClaim(claim)
        self.claim = plain(claim)
        self.start = 0
        self.greatest = 0
        if self.claim[0] != "never":
            self.greatest = self.claim[-1]
        if self.claim[0] == "thick" and self.claim[2] == WHITE:
            self.start = self.claim[-1]
        if self.claim[0] == "shut":
            self.greatest = 4 * self.claim[-1] + 4

    def __call__(self, state, seen, colour):
        return self._after(state, seen, colour)

    def _after(self, state, seen, colour):
        """The state behind a column where this colour is seen and the tape has that one, or BROKEN."""
        if self.claim[0] == "never":
            return self.BROKEN if seen == self.claim[1] else state
        if self.claim[0] == "thick":
            return self._thick(state, seen)
        if self.claim[0] == "narrow":
            return self._narrow(state, seen)
        return self._shut(state, seen, colour)

    def _thick(self, state, seen):
        _, _, counted, least = self.claim
        if seen == counted:
            return min(state + 1, least)
        return self.BROKEN if 0 < state < least else 0

    def _narrow(self, state, seen):
        _, _, counted, most = self.claim
        if seen != counted:
            return 0
        return self.BROKEN if state == most else state + 1

    def _shut(self, state, seen, colour):
        _, _, one, other, most = self.claim
        # The states of one begin with 1, those of the other behind the most + 1 pairs of them.
        ones, others = 1, 2 * most + 3
        first = ones if state < others else others
        inked = state != 0 and (state - first) % 2 == 1
        if seen == WHITE:
            return 0 if state == 0 else self._whiter(first, (state - first) // 2, inked or colour != WHITE)
        if seen not in (one, other):
            return 0
        if inked and first == (others if seen == one else ones):
            return self.BROKEN
        return ones if seen == one else others

    def _whiter(self, first, whites, inked):
        """The state behind one more cell of white, the states of the colour ahead of them beginning with first."""
        if whites == self.claim[-1]:
            return 0
        return first + 2 * (whites + 1) + (1 if inked else 0)

    def broken_at(self, seen, tape):
        """The number of the first column with which the claim is broken, or None."""
        state = self.start
        for number, (shown, colour) in enumerate(zip(seen, tape)):
            state = self._after(state, shown, colour)
            if state == self.BROKEN:
                return number
        return None
