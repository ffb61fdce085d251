"""Inks that can be exchanged, that are steady, or that hide other ones, behind all stacks."""

from strayplates.errors import NoInk
from strayplates.stacks import Stacks


def _first_unlike(shelf, one, other):
    """The least stack of the first seen colour behind which two rows of inks show unlike colours, or None."""
    stacks = Stacks(shelf)
    for colour, _ in stacks.table:
        stack = stacks.stack_of(colour)
        if shelf.stack((*stack, *one)) != shelf.stack((*stack, *other)):
            return stack
    return None


def exchange(shelf, first, second):
    return _first_unlike(shelf, (first, second), (second, first))


def steady(shelf, name):
    return _first_unlike(shelf, (name, name), (name,))


def hides(shelf, upper, lower):
    """Whether `upper` hides `lower`."""
    if upper not in shelf:
        raise NoInk(upper)
    return _first_unlike(shelf, (lower, upper), (upper,))
