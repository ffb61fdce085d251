"""Rules of a book that never count, or that are not needed, for all pages of a palette."""

from strayplates.bookpair import are_alike, least_page, reading_tree
from strayplates.picture import picture_of
from strayplates.words import judged_palette


def least_pages(book, colours):
    """For each rule, the least page on which it counts at the cell (0, 0), or None."""
    pages = [[] for _ in book]
    for told, row in reading_tree((book,), judged_palette(colours)):
        if row[0] == "counts" and row[1][0] is not None:
            pages[row[1][0]].append(picture_of(told))
    return tuple([least_page(found) for found in pages])


def idle_rules(book, colours):
    return tuple([number for number, page in enumerate(least_pages(book, colours)) if page is None])


def needless_rules(book, colours):
    palette = judged_palette(colours)
    return tuple([number for number in range(len(book)) if are_alike(book, book.but(number), palette)])


def lean_book(book, colours):
    """The book without the last rule that is needless, again and again, until none is."""
    palette = judged_palette(colours)
    lean = book
    number = len(book) - 1
    while number >= 0:
        if are_alike(lean, lean.but(number), palette):
            lean = lean.but(number)
            number = len(lean)
        number -= 1
    return lean
