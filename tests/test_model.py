"""Lines of calls made by chance from fixed seeds, answered by the program as by the plain model."""

import random
import unittest

from tests import line
from tests.line import ask, load
from tests.model import Model, text_of

NAMES = ("group", "put", "take", "move", "lump", "split", "rank", "dissolve", "load", "fetch", "apply", "agree",
         "undo", "publish")
KEYS = (6, 12, 32, 70)
LINES = 400
ODD = (0, -1, 1000000000, 1000000001, -7)


class Chance:
    """Draws arguments that mostly mean something on the model's drafts."""

    def __init__(self, seed, keys):
        self.draw = random.Random(seed)
        self.most = keys

    def one_of(self, usual, odd, often=40):
        return self.draw.choice(odd) if self.draw.randrange(often) == 0 else self.draw.choice(usual)

    def look_at(self, tree):
        """From now on, keys are mostly this tree's."""
        self.groups = sorted(told[0] for told in tree[0]) or [1]
        self.specimens = sorted(told[0] for told in tree[1]) or [1]

    def new_key(self):
        return self.one_of(range(1, self.most + 1), ODD)

    def key(self):
        return self.new_key() if self.draw.randrange(5) == 0 else self.draw.choice(self.groups)

    def specimen(self):
        return self.new_key() if self.draw.randrange(4) == 0 else self.draw.choice(self.specimens)

    def parent(self):
        return 0 if self.draw.randrange(4) == 0 else self.key()

    def first_text(self):
        """The text of a tree to begin with, in which each group's parent is one before it."""
        count = self.draw.choice((0, 3, 6, 10, self.most - 1, self.most)) if self.most <= 32 else 32
        keys = self.draw.sample(range(1, self.most + 1), min(count, self.most))
        groups = []
        for key in keys:
            above = self.draw.choice(groups + [(0, 0, 0)])
            groups.append((key, min(above[1] + self.draw.choice((1, 1, 2)), 8), above[0] if above[1] < 8 else 0))
        homes = [(x, self.draw.choice(keys)) for x in range(1, 65) if keys and self.draw.randrange(64) < 2 * self.most]
        return text_of((groups, homes))

    def rank(self):
        return self.one_of(range(1, 9), (0, 9, -1))

    def school(self):
        return self.one_of((1, 1, 2, 3), (0, 4, -1))

    def day(self):
        return self.one_of((-1, -1, 0, 1, 2, 3, 5), (-2, 1000000, 1000001))

    def some(self, usual):
        return [self.one_of(usual, ODD) for _ in range(self.draw.choice((0, 0, 1, 1, 2, 3)))] if usual else []

    def row(self):
        kind = self.one_of((1, 1, 2, 3, 3, 4), (0, 5))
        if kind == 1:
            row = [1, self.draw.choice((self.key, self.new_key))(), self.rank(), self.parent()]
        elif kind == 3:
            row = [3, self.specimen(), self.key(), 0]
        else:
            row = [kind, self.specimen() if kind == 4 else self.key(), 0, 0]
        return row[:self.one_of((4,), (1, 2, 3))]

    def rows(self):
        rows = [self.row() for _ in range(self.draw.choice((0, 1, 1, 2, 3, 6)))]
        # Only the last row may be short, or the rows behind it would be read out of step.
        return [row for row in rows[:-1] if len(row) == 4] + rows[-1:]

    def text(self, model):
        """The text of some draft, here and there spoilt."""
        signs = list(text_of(model.draft(self.draw.choice((1, 2, 3)))))
        digits = [place for place, sign in enumerate(signs) if sign.isdigit()]
        if digits and self.draw.randrange(2) == 0:
            signs[self.draw.choice(digits)] = self.draw.choice("123456789")
        if self.draw.randrange(3) == 0:
            place = self.draw.randrange(len(signs) + 1)
            signs[place:place + self.draw.choice((0, 1))] = self.draw.choice(list("0123456789,:[]{} ") + [""])
        return "".join(signs)

    def arguments(self, name, model):
        school = self.school()
        groups, specimens = model.draft(school if school in (1, 2, 3) else 1)
        self.look_at((groups, specimens))
        a = self.key()
        within = [told[0] for told in groups if told[2] == a], [told[0] for told in specimens if told[1] == a]
        return {
            "group": lambda: (school, self.new_key(), self.rank(), self.parent()),
            "put": lambda: (school, self.specimen(), self.key()),
            "take": lambda: (school, self.specimen()),
            "move": lambda: (school, self.key(), self.parent()),
            "lump": lambda: (school, self.key(), self.key()),
            "split": lambda: (school, a, self.new_key(), self.some(within[0]), self.some(within[1])),
            "rank": lambda: (school, self.key(), self.rank()),
            "dissolve": lambda: (school, self.key()),
            "load": lambda: (school, self.text(model)),
            "fetch": lambda: (school, self.school(), self.day()),
            "apply": lambda: (school, self.rows()),
            "agree": lambda: (school, self.school(), self.day(), self.school(), self.day()),
            "undo": lambda: (school,),
            "publish": lambda: (school, self.day()),
        }[name]()


class ModelTest(unittest.TestCase):
    def check_line(self, seed, keys, count):
        """Gives back how often each call got which answer."""
        chance, model = Chance(seed, keys), Model()
        calls, expected, seen = [], [], {}
        for number in range(count):
            name = "load" if number < 3 else chance.draw.choice(NAMES)
            told = (number + 1, chance.first_text()) if number < 3 else chance.arguments(name, model)
            calls.append(getattr(line, name)(*told))
            expected.append(model.answer(name, *told))
            seen[name, expected[-1]] = seen.get((name, expected[-1]), 0) + 1
            for school in (1, 2, 3) if number == count - 1 else set(told[:1]) & {1, 2, 3}:
                calls.append(load(school, text_of(model.draft(school))))
                expected.append(-6)
        self.assertEqual(ask(calls), expected, (seed, keys))
        return seen

    def test_lines(self):
        seen = {}
        for seed in range(LINES):
            keys = KEYS[seed % len(KEYS)]
            for answer, times in self.check_line(seed, keys, 90 if keys < 30 else 25).items():
                seen[answer] = seen.get(answer, 0) + times
        # A model that is asked too little would show nothing: most answers must have come.
        wanted = {
            "group": (0, -1, -2, -4, -5, -9), "put": (0, -1, -4, -6), "take": (0, -1, -4), "move": (0, -1, -4, -5, -6),
            "lump": (0, -1, -4, -5, -6), "split": (0, -1, -2, -4, -6, -9), "rank": (0, -1, -4, -5, -6),
            "dissolve": (0, -1, -4, -5), "load": (0, -1, -2, -3, -5, -6), "fetch": (0, -1, -6, -7),
            "apply": (0, -1, -4, -5, -6, -9), "agree": (0, -1, -6, -7), "undo": (0, -1, -8), "publish": (0, -1, -2),
        }
        for name, numbers in wanted.items():
            for number in numbers:
                self.assertGreater(seen.get((name, number), 0), 4, (name, number))


if __name__ == "__main__":
    unittest.main()
