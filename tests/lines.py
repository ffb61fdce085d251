"""What the tests of lines share: an oracle for the first bad word, and many ways to spoil lines.

An oracle is told by a start and a function `options(state, head)`, which returns None if a line with this first
word cannot come, and otherwise the triple of the parts behind it, of (part, least, most) for further words (or
None), and of the next state, or a function that makes it of the words. A part is a function of a word and the
words ahead of it. The state None is that behind the last line.
"""

import re

from strayplates.errors import BadLine

WORDS = ("", "a", "abcdefghi", "Red", "red", "white", "true", "-0", "007", "0", "1", "2", "3", "4", "5", "-1", "10", "13",
         "20", "21", "-21", "50", "51", "-51", "9" * 40, "+1", "1.0", "end", "x.", "x", ".x.", "up", "near", "across",
         "stamp", "plate", "picture", "over", "box", "again", "a1", "-", "--1", "press", "claim", "holes")
NO_STRINGS = (None, 3, True, (), ("end",), b"end", {})


def is_word(word, ahead=()):
    return re.fullmatch("[a-z]{1,8}", word) is not None


def is_hue(word, ahead=()):
    return is_word(word) and word != "white"


def integer(low, high):
    def fits(word, ahead):
        return re.fullmatch("0|-?[1-9][0-9]*", word) is not None and low <= int(word) <= high
    return fits


def one_of(*words):
    return lambda word, ahead: word in words


def first_bad(lines, start, options):
    """The line and the word that BadLine bears, or None if all lines can be read."""
    state = start
    for number, line in enumerate(lines):
        if state is None or not isinstance(line, str):
            return number, 0
        words = line.split(" ")
        told = options(state, words[0])
        if told is None:
            return number, 0
        parts, further, state = told
        part, least, most = further if further else (None, 0, 0)
        for at in range(1, max(len(words), 1 + len(parts) + least)):
            if at >= len(words):
                return number, at
            if at > len(parts) and at > len(parts) + most:
                return number, at
            fits = parts[at - 1] if at <= len(parts) else part
            if not fits(words[at], words[:at]):
                return number, at
        if callable(state):
            state = state(words)
    return None if state is None else (len(lines), 0)


def spoilt_lines(lines, words=WORDS):
    """The lines, spoilt in one place, in each of many ways."""
    lines = tuple(lines)
    for at, line in enumerate(lines):
        told = line.split(" ")
        others = []
        for k in range(len(told)):
            others += [told[:k] + [word] + told[k + 1:] for word in words]
            others += [told[:k] + [word] + told[k:] for word in words]
            others.append(told[:k] + told[k + 1:])
        others += [told + [word] for word in words] + [told * 2]
        for other in others:
            yield (*lines[:at], " ".join(other), *lines[at + 1:])
        for thing in NO_STRINGS:
            yield (*lines[:at], thing, *lines[at + 1:])
            yield (*lines[:at], thing, *lines[at:])
        yield (*lines[:at], *lines[at + 1:])
        yield (*lines[:at], line, *lines[at:])
        yield lines[:at]
        for other in range(len(lines)):
            yield (*lines[:at], lines[other], *lines[at:])
    for word in (*words, *lines, *NO_STRINGS):
        yield (*lines, word)


class LineChecks:
    """Mixed into test cases, with Checks."""

    def check_lines(self, read, lines, start, options):
        """What is read agrees with the oracle; of what can be read, whether it does not raise BadLine."""
        expected = first_bad(lines, start, options)
        if expected is not None:
            self.assert_error(BadLine, {"line": expected[0], "word": expected[1]}, read, lines)
            return False
        return True

    def check_spoilt(self, read, write, told, start, options):
        """Each way to spoil the lines of a thing brings what the oracle tells, or lines of another thing."""
        lines = write(told)
        self.assertIsNone(first_bad(lines, start, options))
        many = 0
        for spoilt in spoilt_lines(lines):
            if self.check_lines(read, spoilt, start, options):
                many += 1
                self.check_read(read, write, spoilt)
        return many

    def check_read(self, read, write, lines):
        """Lines that can be read bring an object, or an error of its own; what is written then is read again."""
        try:
            told = read(list(lines))
        except BadLine as e:
            self.fail((lines, e.line, e.word))
        except self.own_errors:
            return
        again = write(told) if not isinstance(told, tuple) else write(*told)
        back = read(again)
        if isinstance(told, tuple):
            self.assertEqual([thing == other for thing, other in zip(told, back)], [True] * len(told))
        else:
            self.assertTrue(told == back)
        self.assertEqual(write(back) if not isinstance(back, tuple) else write(*back), again)
        self.assert_tuples(again)
