"""What the tests share: how errors are asked for, small presses, and plain ways to find the same things."""

import itertools
import random

from strayplates.book import Book
from strayplates.picture import Picture
from strayplates.press import Press
from strayplates.shelf import Shelf

SUN = ("sun", "yellow", ())
SKY = ("sky", "blue", (("yellow", "green"),))
ROSE = ("rose", "red", (("yellow", "orange"),))

# Things that are none of most kinds; a test takes out those that are of its kind.
ODD = (None, True, False, 0, -1, 1, 2.0, "", "red", "Red", b"red", (), [], {}, {1: 2}, set(), object(), ((),),
       (True, 0), (0, 0, 0), ("red",), [["red"]], print, Picture(), ("never", True), (1, 2), [0, 0])


class Checks:
    """Mixed into test cases."""

    def assert_error(self, kind, told, call, *args, **more):
        """The call raises an error of just this class, which bears just this."""
        try:
            call(*args, **more)
        except Exception as e:
            if type(e) is not kind:
                raise
            self.assertEqual(vars(e), told)
            for word, thing in told.items():
                self.assertIs(type(getattr(e, word)), type(thing))
        else:
            self.fail(f"no {kind.__name__}")

    def assert_tuples(self, thing):
        """There is no list in the thing."""
        self.assertNotIsInstance(thing, list)
        if isinstance(thing, tuple):
            for part in thing:
                self.assert_tuples(part)


def listed(thing):
    """The thing with lists in the place of tuples."""
    return [listed(part) for part in thing] if isinstance(thing, (tuple, list)) else thing


def two_press(boxes=((0, 0, 0, 1),), passes=(0, 1)):
    return Press(Shelf((SUN, SKY)), tuple(zip(("sun", "sky"), passes)), boxes)


def plain_book():
    return Book((("red", ("sun",)), ("blue", ("sky",))))


def random_picture(rng, hues, height, width, inked=0.6):
    cells = []
    for row in range(height):
        for column in range(width):
            if rng.random() < inked:
                cells.append((row, column, rng.choice(hues)))
    return Picture(cells)


def random_rule(rng, colours, inks, sides=("up", "left", "right", "down", "near", "hemmed")):
    printed = tuple(sorted(rng.sample(inks, rng.randint(0, len(inks)))))
    if rng.random() < 0.3:
        return (rng.choice([hue for hue in colours if hue != "white"]), printed)
    colour = rng.choice(colours)
    beside = rng.choice([hue for hue in colours if colour != "white" or hue != "white"])
    return (colour, rng.choice(sides), beside, printed)


def random_book(rng, colours, inks, most=4, least=0):
    return Book([random_rule(rng, colours, inks) for _ in range(rng.randint(least, most))])


def rng(seed):
    return random.Random(seed)


def lots(many):
    return [lot for size in range(many + 1) for lot in itertools.combinations(range(many), size)]
