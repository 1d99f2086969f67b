"""Lines of calls made by chance from fixed seeds, answered by the program as by the plain model."""

import random
import unittest

from groupschools.schools import answers
from tests import line
from tests.line import ReadOnly, read_answers
from tests.model import Model, text_of

EDITS = ("group", "put", "take", "move", "lump", "split", "rank", "dissolve", "load", "fetch", "apply", "agree",
         "undo", "publish")
QUESTIONS = ("text", "holds", "path", "common", "level", "topmost", "diff", "clashes", "distance", "closer",
             "versions", "counts", "check")
KEYS = (6, 12, 32, 70)
LINES = 240
MOST_CALLS = 300
MOST_NUMBERS = 25000
ODD = (0, -1, 1000000000, 1000000001, -7)


class Chance:
    """Draws arguments that mostly mean something on the model's drafts."""

    def __init__(self, seed, keys):
        self.draw = random.Random(seed)
        self.most = keys

    def one_of(self, usual, odd, often=40):
        return self.draw.choice(odd) if self.draw.randrange(often) == 0 else self.draw.choice(usual)

    def look_at(self, tree):
        """From now on, keys are mostly this tree's."""
        self.groups = sorted(told[0] for told in tree[0]) or [1]
        self.specimens = sorted(told[0] for told in tree[1]) or [1]

    def new_key(self):
        return self.one_of(range(1, self.most + 1), ODD)

    def key(self):
        return self.new_key() if self.draw.randrange(5) == 0 else self.draw.choice(self.groups)

    def specimen(self):
        return self.new_key() if self.draw.randrange(4) == 0 else self.draw.choice(self.specimens)

    def parent(self):
        return 0 if self.draw.randrange(4) == 0 else self.key()

    def first_text(self):
        """The text of a tree to begin with, in which each group's parent is one before it."""
        count = self.draw.choice((0, 3, 6, 10, self.most - 1, self.most)) if self.most <= 32 else 32
        keys = self.draw.sample(range(1, self.most + 1), min(count, self.most))
        groups = []
        for key in keys:
            above = self.draw.choice(groups + [(0, 0, 0)])
            groups.append((key, min(above[1] + self.draw.choice((1, 1, 2)), 8), above[0] if above[1] < 8 else 0))
        homes = [(x, self.draw.choice(keys)) for x in range(1, 65) if keys and self.draw.randrange(64) < 2 * self.most]
        return text_of((groups, homes))

    def rank(self):
        return self.one_of(range(1, 9), (0, 9, -1))

    def school(self):
        return self.one_of((1, 1, 2, 3), (0, 4, -1))

    def day(self):
        return self.one_of((-1, -1, 0, 1, 2, 3, 5), (-2, 1000000, 1000001))

    def some(self, usual):
        return [self.one_of(usual, ODD) for _ in range(self.draw.choice((0, 0, 1, 1, 2, 3)))] if usual else []

    def row(self):
        kind = self.one_of((1, 1, 2, 3, 3, 4), (0, 5))
        if kind == 1:
            row = [1, self.draw.choice((self.key, self.new_key))(), self.rank(), self.parent()]
        elif kind == 3:
            row = [3, self.specimen(), self.key(), 0]
        else:
            row = [kind, self.specimen() if kind == 4 else self.key(), 0, 0]
        return row[:self.one_of((4,), (1, 2, 3))]

    def rows(self):
        rows = [self.row() for _ in range(self.draw.choice((0, 1, 1, 2, 3, 6)))]
        # Only the last row may be short, or the rows behind it would be read out of step.
        return [row for row in rows[:-1] if len(row) == 4] + rows[-1:]

    def text(self, model):
        """The text of some draft, here and there spoilt."""
        signs = list(text_of(model.draft(self.draw.choice((1, 2, 3)))))
        digits = [place for place, sign in enumerate(signs) if sign.isdigit()]
        if digits and self.draw.randrange(2) == 0:
            signs[self.draw.choice(digits)] = self.draw.choice("123456789")
        if self.draw.randrange(3) == 0:
            place = self.draw.randrange(len(signs) + 1)
            signs[place:place + self.draw.choice((0, 1))] = self.draw.choice(list("0123456789,:[]{} ") + [""])
        return "".join(signs)

    def told_tree(self, model):
        """A school and a day; from now on, keys are mostly those of this tree."""
        school, day = self.school(), self.day()
        there = [told for told in model.published if told[0] == school and told[1] <= day]
        self.look_at(model.tree(school, day) if there or (school in (1, 2, 3) and day == -1) else ((), ()))
        return school, day

    def question(self, name, model):
        """The arguments of a question."""
        told = self.told_tree(model)
        return {
            "text": lambda: told,
            "holds": lambda: (*told, self.key()),
            "path": lambda: (*told, self.specimen()),
            "common": lambda: (*told, self.some(self.specimens)),
            "level": lambda: (*told, self.rank()),
            "topmost": lambda: (*told, self.one_of((1, 2, 3), (0, 4)), self.specimen()),
            "diff": lambda: (*told, self.school(), self.day()),
            "clashes": lambda: (*told, self.school(), self.day()),
            "distance": lambda: (*told, self.school(), self.day()),
            "closer": lambda: (*told, *[self.one_of(self.specimens, ODD + (9,)) for _ in range(3)]),
            "versions": lambda: told[:1],
            "counts": lambda: told,
            "check": lambda: (self.text(model),),
        }[name]()

    def arguments(self, name, model):
        if name in QUESTIONS:
            return self.question(name, model)
        school = self.school()
        groups, specimens = model.draft(school if school in (1, 2, 3) else 1)
        self.look_at((groups, specimens))
        a = self.key()
        within = [told[0] for told in groups if told[2] == a], [told[0] for told in specimens if told[1] == a]
        return {
            "group": lambda: (school, self.new_key(), self.rank(), self.parent()),
            "put": lambda: (school, self.specimen(), self.key()),
            "take": lambda: (school, self.specimen()),
            "move": lambda: (school, self.key(), self.parent()),
            "lump": lambda: (school, self.key(), self.key()),
            "split": lambda: (school, a, self.new_key(), self.some(within[0]), self.some(within[1])),
            "rank": lambda: (school, self.key(), self.rank()),
            "dissolve": lambda: (school, self.key()),
            "load": lambda: (school, self.text(model)),
            "fetch": lambda: (school, self.school(), self.day()),
            "apply": lambda: (school, self.rows()),
            "agree": lambda: (school, self.school(), self.day(), self.school(), self.day()),
            "undo": lambda: (school,),
            "publish": lambda: (school, self.day()),
        }[name]()


class ModelTest(unittest.TestCase):
    def make_line(self, seed, keys):
        """Calls of a long line, with what the model answers and the names of the calls."""
        chance, model = Chance(seed, keys), Model()
        calls, expected, names = [], [], []

        def add(name, *told):
            calls.append(getattr(line, name)(*told))
            expected.append(model.answer(name, *told))
            names.append(name)

        for school in (1, 2, 3):
            add("load", school, chance.first_text())
        while len(calls) < MOST_CALLS - 4 and sum(len(call) for call in calls) < MOST_NUMBERS - 3000:
            name = chance.draw.choice(chance.draw.choice((EDITS, QUESTIONS)))
            told = chance.arguments(name, model)
            add(name, *told)
            if name in EDITS and told[0] in (1, 2, 3):
                add("text", told[0], -1)
        for school in (1, 2, 3):
            add("text", school, -1)
        return calls, expected, names

    def check_line(self, seed, keys):
        """Gives back how often each call got which first number, of which those above 0 count as 1."""
        calls, expected, names = self.make_line(seed, keys)
        numbers = sum(calls, [])
        self.assertLessEqual(len(calls), MOST_CALLS)
        self.assertLessEqual(len(numbers), MOST_NUMBERS)
        before = list(numbers)
        given = answers(numbers)
        self.assertEqual(numbers, before)
        self.assertEqual({type(number) for number in given}, {int})
        told = read_answers(given, len(calls))
        for number, answer in enumerate(told):
            self.assertEqual(answer, expected[number], (seed, keys, number, calls[number]))
        self.assertEqual(answers(ReadOnly(numbers)), given)
        seen = {}
        for name, answer in zip(names, told):
            seen[name, min(answer[0], 1)] = seen.get((name, min(answer[0], 1)), 0) + 1
        return seen

    def test_lines(self):
        seen = {}
        for seed in range(LINES):
            for answer, times in self.check_line(seed, KEYS[seed % len(KEYS)]).items():
                seen[answer] = seen.get(answer, 0) + times
        # A model that is asked too little would show nothing: most answers must have come.
        wanted = {
            "group": (0, -1, -2, -4, -5, -9), "put": (0, -1, -4, -6), "take": (0, -1, -4), "move": (0, -1, -4, -5, -6),
            "lump": (0, -1, -4, -5, -6), "split": (0, -1, -2, -4, -6, -9), "rank": (0, -1, -4, -5, -6),
            "dissolve": (0, -1, -4, -5), "load": (0, -1, -2, -3, -5, -6), "fetch": (0, -1, -6, -7),
            "apply": (0, -1, -4, -5, -6, -9), "agree": (0, -1, -6, -7), "undo": (0, -1, -8), "publish": (0, -1, -2),
            "text": (0, 1, -1, -7), "holds": (0, 1, -1, -4, -7), "path": (1, -1, -4, -7), "common": (0, 1, -1, -4, -7),
            "level": (0, 1, -1, -7), "topmost": (0, 1, -1, -4, -7), "diff": (0, 1, -1, -7), "clashes": (0, 1, -1, -7),
            "distance": (0, 1, -1, -7), "closer": (0, 1, -1, -4, -7), "versions": (0, 1, -1), "counts": (0, 1, -1, -7),
            "check": (0, 1, -1, -2, -3, -5),
        }
        self.assertEqual(set(wanted), set(EDITS + QUESTIONS))
        for name, numbers in wanted.items():
            for number in numbers:
                self.assertGreater(seen.get((name, number), 0), 4, (name, number))


if __name__ == "__main__":
    unittest.main()
