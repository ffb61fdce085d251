"""Verdicts on sheets: whether a wish holds for each copy of a layout at all lies."""

from strayplates.claims import first_breach, judged_wish


def _first_of_sheet(layout, sheet, page, wish, margin):
    """The first lie, the first copy there, and the breach of the wish for its view; four times None if it holds."""
    for number, lie in enumerate(sheet.press.lies):
        picture = sheet.shown(lie)
        for which in range(len(layout)):
            found = first_breach(wish, page, layout.view(picture, which, margin=margin))
            if found is not None:
                return (number, which, *found)
    return None, None, None, None


class SheetVerdict:
    def __init__(self, layout, job, page, wish, *, margin=0):
        sheet = layout.sheet(job)
        found = _first_of_sheet(layout, sheet, page, judged_wish(wish), margin)
        self.lie, self.which, self.claim, self.cell = found

    def __bool__(self):
        return self.lie is None
