"""Verdicts on a job at all its lies."""

from strayplates.claims import first_breach, judged_wish


class Verdict:
    def __init__(self, job, page, wish):
        told = judged_wish(wish)
        self.lie, self.claim, self.cell = None, None, None
        good = []
        for number, lie in enumerate(job.press.lies):
            found = first_breach(told, page, job.shown(lie))
            if found is None:
                good.append(number)
            elif self.lie is None:
                self.lie = number
                self.claim, self.cell = found
        self.good = tuple(good)

    def __bool__(self):
        return self.lie is None
