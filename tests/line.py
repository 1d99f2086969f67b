"""Writes calls as the interface takes them, and reads their answers."""

import unittest

from groupschools.schools import answers

MOST_KEY = 1000000000
MOST_DAY = 1000000
FAR = 1000000000000


def group(school, key, rank, parent):
    return [0, school, key, rank, parent]


def put(school, x, home):
    return [1, school, x, home]


def take(school, x):
    return [2, school, x]


def move(school, key, parent):
    return [3, school, key, parent]


def lump(school, a, b):
    return [4, school, a, b]


def split(school, a, key, groups, specimens):
    return [5, school, a, key, len(groups)] + groups + [len(specimens)] + specimens


def rank(school, key, number):
    return [6, school, key, number]


def dissolve(school, key):
    return [7, school, key]


def load(school, text):
    """The text is a str of ASCII signs, or a list of bytes."""
    row = [ord(sign) for sign in text] if isinstance(text, str) else list(text)
    return [8, school, len(row)] + row


def fetch(school, other, day):
    return [9, school, other, day]


def apply(school, rows):
    """The rows are lists of numbers."""
    row = sum(rows, [])
    return [10, school, len(row)] + row


def agree(school, a, aday, b, bday):
    return [11, school, a, aday, b, bday]


def undo(school):
    return [12, school]


def publish(school, day):
    return [13, school, day]


class ReadOnly(list):
    """A list that can't be changed, not for a while either."""

    def refuse(self, *told, **named):
        raise AssertionError("the list handed in was changed")

    append = clear = extend = insert = pop = remove = reverse = sort = refuse
    __setitem__ = __delitem__ = __iadd__ = __imul__ = refuse


def read_answers(given, count):
    """Each call's numbers as a list."""
    place = 0
    told = []
    for _ in range(count):
        end = place + 1 + given[place]
        told.append(given[place + 1:end])
        place = end
    if place != len(given):
        raise AssertionError("the answers are not those of %d calls: %r" % (count, given))
    return told


def ask(calls):
    """The one number that each of the calls answers."""
    line = ReadOnly(number for call in calls for number in call)
    given = answers(line)
    if not isinstance(given, list) or any(type(number) is not int for number in given):
        raise AssertionError("not a list of whole numbers: %r" % (given,))
    told = read_answers(given, len(calls))
    if any(len(numbers) != 1 for numbers in told):
        raise AssertionError("not one number a call: %r" % (told,))
    return [numbers[0] for numbers in told]


def side_by_side(start, count):
    """A text of so many groups of rank 1, with keys from start on."""
    return ",".join("1:%d" % key for key in range(start, start + count))


def in_brackets(start, count):
    """So many specimens in brackets, with keys from start on."""
    return "[" + " ".join(str(x) for x in range(start, start + count)) + "]"


class LineCase(unittest.TestCase):
    """Checks what calls answer on a house where school 1 has loaded a text first."""

    # Of a group 1 with two groups in it, of which 2 has one more, and a group 5 beside.
    text = "2:1[10]{4:2[20 21]{6:4[40]},5:3[30]},2:5[50]"

    def after(self, *calls):
        """The answer of the last call, behind the text and the other calls, which aren't refused."""
        told = ask([load(1, self.text)] + list(calls))
        self.assertEqual(told[:-1], [0] * len(calls), calls)
        return told[-1]

    def check_draft(self, text, *calls):
        """None of the calls is refused, and then the text tells school 1's draft."""
        self.assertEqual(self.after(*calls, load(1, text)), -6, (calls, text))

    def check_refused(self, refusal, call):
        """The call is refused so, and neither the draft nor the earlier drafts have changed."""
        told = ask([load(1, self.text), call, load(1, self.text), undo(1), load(1, ""), undo(1)])
        self.assertEqual(told, [0, refusal, -6, 0, -6, -8], call)

    def check_refusals(self, rows):
        """Rows of a refusal and the calls that get it."""
        for refusal, calls in rows:
            for call in calls:
                with self.subTest(call=call):
                    self.check_refused(refusal, call)
