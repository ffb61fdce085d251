"""The lines of shelves, presses and books."""

from strayplates.book import Book
from strayplates.common import Lines, line_of
from strayplates.press import Press
from strayplates.shelf import Shelf
from strayplates.words import SIDES, is_hue, is_word


def write_shelf(shelf):
    lines = ["shelf"]
    for name, own, over in shelf:
        lines.append(line_of(["ink", name, own]))
        lines = lines + [line_of(["over", under, result]) for under, result in over]
    return (*lines, "end")


def write_press(press):
    units = [line_of(["unit", name, turn]) for name, turn in press]
    boxes = [line_of(["box", *box]) for box in press.boxes]
    return (*write_shelf(press.shelf), "press", *units, *boxes, "end")


def write_book(book):
    lines = ["book"]
    for rule in book:
        head = "rule" if len(rule) == 2 else "beside"
        lines.append(line_of([head, *rule[:-1], *rule[-1]]))
    return (*lines, "end")


def told_shelf(walk):
    """The inks that lines tell."""
    walk.head(("shelf",))
    walk.close()
    inks = []
    head = walk.head(("ink", "end"))
    while head != "end":
        if head == "ink":
            inks.append((walk.take(is_word), walk.take(is_hue), ()))
        else:
            name, own, over = inks.pop()
            inks.append((name, own, (*over, (walk.take(is_hue), walk.take(is_word)))))
        walk.close()
        head = walk.head(("ink", "over", "end"))
    walk.close()
    return inks


def told_press(walk):
    """The inks, the units and the boxes that lines tell."""
    inks = told_shelf(walk)
    walk.head(("press",))
    walk.close()
    units = []
    boxes = []
    head = walk.head(("unit", "box", "end"))
    while head != "end":
        if head == "unit":
            units.append((walk.take(is_word), walk.integer(0, 2)))
        else:
            boxes.append([walk.integer(0, 3) for _ in range(4)])
        walk.close()
        head = walk.head(("box", "end") if boxes else ("unit", "box", "end"))
    walk.close()
    return inks, units, boxes


def made_press(told):
    """The press of inks, units and boxes."""
    inks, units, boxes = told
    return Press(Shelf(inks), units, boxes)


def read_shelf(lines):
    walk = Lines(lines)
    inks = told_shelf(walk)
    walk.end()
    return Shelf(inks)


def read_press(lines):
    walk = Lines(lines)
    told = told_press(walk)
    walk.end()
    return made_press(told)


def _is_side(word):
    return word in SIDES


def read_book(lines):
    walk = Lines(lines)
    walk.head(("book",))
    walk.close()
    rules = []
    head = walk.head(("rule", "beside", "end"))
    while head != "end":
        parts = [walk.take(is_word)]
        if head == "beside":
            parts = [*parts, walk.take(_is_side), walk.take(is_word)]
        rules.append((*parts, walk.some(is_word, 0, 5)))
        head = walk.head(("rule", "beside", "end"))
    walk.close()
    walk.end()
    return Book(rules)
