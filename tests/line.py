"""Writes calls as the interface takes them, and reads their answers."""

import unittest

from groupschools.schools import answers

MOST_KEY = 1000000000
MOST_DAY = 1000000
FAR = 1000000000000


def group(school, key, rank, parent):
    return [0, school, key, rank, parent]


def put(school, x, home):
    return [1, school, x, home]


def take(school, x):
    return [2, school, x]


def move(school, key, parent):
    return [3, school, key, parent]


def lump(school, a, b):
    return [4, school, a, b]


def split(school, a, key, groups, specimens):
    return [5, school, a, key, len(groups)] + groups + [len(specimens)] + specimens


def rank(school, key, number):
    return [6, school, key, number]


def dissolve(school, key):
    return [7, school, key]


def in_bytes(written):
    """The bytes of a text that is a str of ASCII signs, or a list of bytes."""
    return [ord(sign) for sign in written] if isinstance(written, str) else list(written)


def load(school, written):
    """The text is a str of ASCII signs, or a list of bytes."""
    row = in_bytes(written)
    return [8, school, len(row)] + row


def fetch(school, other, day):
    return [9, school, other, day]


def apply(school, rows):
    """The rows are lists of numbers."""
    row = sum(rows, [])
    return [10, school, len(row)] + row


def agree(school, a, aday, b, bday):
    return [11, school, a, aday, b, bday]


def undo(school):
    return [12, school]


def publish(school, day):
    return [13, school, day]


def text(school, day):
    return [14, school, day]


def holds(school, day, key):
    return [15, school, day, key]


def path(school, day, x):
    return [16, school, day, x]


def common(school, day, specimens):
    return [17, school, day, len(specimens)] + specimens


def level(school, day, number):
    return [18, school, day, number]


def topmost(school, day, family, x):
    return [19, school, day, family, x]


def diff(a, aday, b, bday):
    return [20, a, aday, b, bday]


def clashes(a, aday, b, bday):
    return [21, a, aday, b, bday]


def distance(a, aday, b, bday):
    return [22, a, aday, b, bday]


def closer(school, day, x, y, z):
    return [23, school, day, x, y, z]


def versions(school):
    return [24, school]


def counts(school, day):
    return [25, school, day]


def check(written):
    """The text is a str of ASCII signs, or a list of bytes."""
    row = in_bytes(written)
    return [26, len(row)] + row


class ReadOnly(list):
    """A list that can't be changed, not for a while either."""

    def refuse(self, *told, **named):
        raise AssertionError("the list handed in was changed")

    append = clear = extend = insert = pop = remove = reverse = sort = refuse
    __setitem__ = __delitem__ = __iadd__ = __imul__ = refuse


def read_answers(given, count):
    """Each call's numbers as a list."""
    place = 0
    told = []
    for _ in range(count):
        end = place + 1 + given[place]
        told.append(given[place + 1:end])
        place = end
    if place != len(given):
        raise AssertionError("the answers are not those of %d calls: %r" % (count, given))
    return told


def ask_all(calls):
    """The list of numbers that each of the calls answers."""
    line = ReadOnly(number for call in calls for number in call)
    given = answers(line)
    if type(given) is not list or any(type(number) is not int for number in given):
        raise AssertionError("not a list of whole numbers: %r" % (given,))
    return read_answers(given, len(calls))


def ask(calls):
    """The one number that each of the calls answers."""
    told = ask_all(calls)
    if any(len(numbers) != 1 for numbers in told):
        raise AssertionError("not one number a call: %r" % (told,))
    return [numbers[0] for numbers in told]


def side_by_side(start, count):
    """A text of so many groups of rank 1, with keys from start on."""
    return ",".join("1:%d" % key for key in range(start, start + count))


def in_brackets(start, count):
    """So many specimens in brackets, with keys from start on."""
    return "[" + " ".join(str(x) for x in range(start, start + count)) + "]"


class LineCase(unittest.TestCase):
    """Checks what calls answer on a house where school 1 has loaded a text first."""

    # Of a group 1 with two groups in it, of which 2 has one more, and a group 5 beside.
    text = "2:1[10]{4:2[20 21]{6:4[40]},5:3[30]},2:5[50]"

    def after(self, *calls):
        """The answer of the last call, behind the text and the other calls, which aren't refused."""
        told = ask([load(1, self.text)] + list(calls))
        self.assertEqual(told[:-1], [0] * len(calls), calls)
        return told[-1]

    def check_draft(self, text, *calls):
        """None of the calls is refused, and then the text tells school 1's draft."""
        self.assertEqual(self.after(*calls, load(1, text)), -6, (calls, text))

    def check_refused(self, refusal, call):
        """The call is refused so, and neither the draft nor the earlier drafts have changed."""
        told = ask([load(1, self.text), call, load(1, self.text), undo(1), load(1, ""), undo(1)])
        self.assertEqual(told, [0, refusal, -6, 0, -6, -8], call)

    def check_refusals(self, rows):
        """Rows of a refusal and the calls that get it."""
        for refusal, calls in rows:
            for call in calls:
                with self.subTest(call=call):
                    self.check_refused(refusal, call)


class QuestionCase(unittest.TestCase):
    """Checks what questions answer on houses where calls that aren't refused have gone before."""

    def look(self):
        """Calls whose answers tell the whole house: versions, then drafts and earlier drafts."""
        calls = [versions(school) for school in (1, 2, 3)]
        calls += [text(school, day) for school in (1, 2, 3) for day in (0, 5, 10, 15, 20, MOST_DAY)]
        for school in (1, 2, 3):
            calls += [text(school, -1)] + [undo(school), text(school, -1)] * 13
        return calls

    def check_answer(self, expected, question, *before):
        """The question answers so, again and again, and the house is as if it hadn't been asked."""
        before = list(before)
        told = ask_all(before + [question, question] + self.look())
        start = len(before)
        self.assertEqual(told[:start], [[0]] * start, before)
        self.assertEqual(told[start:start + 2], [expected, expected], (question, before))
        self.assertEqual(told[start + 2:], ask_all(before + self.look())[start:], question)

    def check_draft_of(self, written, expected, question):
        """The question, which is of school 1's draft, answers so where the draft is the tree of the text."""
        # The empty tree is a new school's draft, so loading it at once would be refused.
        before = [load(1, "8:8"), load(1, written)]
        self.check_answer(expected, question, *before)
