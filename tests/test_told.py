"""The trees that questions are told by a school and a day: drafts, versions, and what is refused."""

import unittest

from tests.line import (
    FAR, MOST_DAY, MOST_KEY, QuestionCase, clashes, closer, common, counts, diff, distance, holds, in_bytes, level,
    load, path, publish, text, topmost, undo,
)

NO_SCHOOLS = (0, 4, -1, FAR, -FAR)
NO_DAYS = (-2, MOST_DAY + 1, FAR, -FAR)

# School 1's versions of the days 10 and 20, and its draft.
EARLY = "1:1[1]{5:2[2 3]}"
LATE = "1:1[1 2]{5:2[3]},8:9"
DRAFT = "1:1[1]{5:2[2 3 4]}"

DAYS = ((10, 0), (11, 0), (15, 0), (19, 0), (20, 1), (21, 1), (MOST_DAY, 1), (-1, 2))
BEFORE_ALL = (0, 1, 9)


def told_text(written):
    return [len(written)] + in_bytes(written)


# Questions of one tree as functions of a school and a day, with the answers for EARLY, LATE and DRAFT.
QUESTIONS = (
    (text, [told_text(written) for written in (EARLY, LATE, DRAFT)]),
    (lambda school, day: holds(school, day, 2), [[2, 2, 3], [1, 3], [3, 2, 3, 4]]),
    (lambda school, day: path(school, day, 2), [[2, 1, 1, 2, 5], [1, 1, 1], [2, 1, 1, 2, 5]]),
    (lambda school, day: common(school, day, [2, 3]), [[2], [1], [2]]),
    (lambda school, day: level(school, day, 5), [[1, 2, 2, 2, 3], [1, 2, 1, 3], [1, 2, 3, 2, 3, 4]]),
    (lambda school, day: topmost(school, day, 2, 2), [[2], [0], [2]]),
    (lambda school, day: closer(school, day, 2, 3, 1), [[1], [0], [1]]),
    (counts, [[2, 3, 2, 2], [3, 3, 2, 2], [2, 4, 2, 2]]),
)

# Questions of one tree that are refused for something else than the tree.
WRONG = (
    (-4, lambda school, day: holds(school, day, 7)),
    (-4, lambda school, day: holds(school, day, 0)),
    (-4, lambda school, day: path(school, day, 7)),
    (-4, lambda school, day: path(school, day, MOST_KEY + 1)),
    (-1, lambda school, day: common(school, day, [])),
    (-1, lambda school, day: common(school, day, [1, 1])),
    (-4, lambda school, day: common(school, day, [7])),
    (-1, lambda school, day: level(school, day, 0)),
    (-1, lambda school, day: topmost(school, day, 4, 1)),
    (-4, lambda school, day: topmost(school, day, 1, 7)),
    (-1, lambda school, day: closer(school, day, 1, 1, 2)),
    (-4, lambda school, day: closer(school, day, 1, 2, 7)),
)

# Answers of diff, clashes and distance for EARLY and LATE, LATE and DRAFT, DRAFT and EARLY.
COMPARISONS = (
    (diff, {
        (0, 1): [2, 1, 9, 8, 0, 3, 2, 1, 0], (1, 0): [2, 2, 9, 0, 0, 3, 2, 2, 0],
        (1, 2): [3, 2, 9, 0, 0, 3, 2, 2, 0, 3, 4, 2, 0], (2, 1): [3, 1, 9, 8, 0, 3, 2, 1, 0, 4, 4, 0, 0],
        (0, 2): [1, 3, 4, 2, 0], (2, 0): [1, 4, 4, 0, 0], (0, 0): [0], (1, 1): [0], (2, 2): [0]}),
    (clashes, {
        (0, 1): [0], (1, 0): [0], (1, 2): [1, 1, 2], (2, 1): [1, 2, 1], (0, 2): [1, 1, 2], (2, 0): [1, 2, 1],
        (0, 0): [0], (1, 1): [0], (2, 2): [0]}),
    (distance, {
        (0, 1): [1, 1], (1, 0): [1, 1], (1, 2): [2, 2], (2, 1): [2, 2], (0, 2): [2, 2], (2, 0): [2, 2],
        (0, 0): [0, 0], (1, 1): [0, 0], (2, 2): [0, 0]}),
)


class ToldCase(QuestionCase):
    # Published with the later day first, and with an earlier draft to be told from the draft.
    house = [load(1, LATE), publish(1, 20), load(1, EARLY), publish(1, 10), load(1, DRAFT)]
    other_house = [load(1, EARLY), publish(1, 10), load(1, LATE), publish(1, 20), load(1, "1:1"), load(1, DRAFT)]

    def each_question(self):
        for make, told in QUESTIONS:
            yield make, told
        for refusal, make in WRONG:
            yield make, [[refusal]] * 3


class OneTreeTest(ToldCase):
    def test_answers_tell_the_trees_apart(self):
        for make, told in QUESTIONS:
            self.assertNotEqual(told[0], told[1])
            self.assertNotEqual(told[1], told[2])

    def test_days(self):
        for make, told in self.each_question():
            for day, number in DAYS:
                self.check_answer(told[number], make(1, day), *self.house)
                self.check_answer(told[number], make(1, day), *self.other_house)

    def test_each_school(self):
        for make, told in QUESTIONS:
            for school in (1, 2, 3):
                calls = [load(school, EARLY), publish(school, 0), load(school, LATE)]
                self.check_answer(told[0], make(school, 0), *calls)
                self.check_answer(told[1], make(school, -1), *calls)
                other = school % 3 + 1
                self.check_answer([-7], make(other, 0), *calls)

    def test_edges_of_days(self):
        for make, told in QUESTIONS:
            calls = [load(1, EARLY), publish(1, MOST_DAY), load(1, LATE), publish(1, 0), load(1, DRAFT)]
            self.check_answer(told[0], make(1, MOST_DAY), *calls)
            self.check_answer(told[1], make(1, MOST_DAY - 1), *calls)
            self.check_answer(told[1], make(1, 0), *calls)

    def test_undone_draft(self):
        for make, told in QUESTIONS:
            self.check_answer(told[0], make(1, -1), load(1, EARLY), publish(1, 3), load(1, LATE), undo(1))
            self.check_answer(told[1], make(1, 3), load(1, EARLY), load(1, LATE), publish(1, 3), undo(1))

    def test_earlier_than_all_versions(self):
        for make, told in self.each_question():
            for day in BEFORE_ALL:
                self.check_answer([-7], make(1, day), *self.house)

    def test_no_version_at_all(self):
        for make, told in self.each_question():
            for day in (0, 10, MOST_DAY):
                self.check_answer([-7], make(2, day), *self.house)

    def test_wrong_school_or_day(self):
        for make, told in self.each_question():
            for school in NO_SCHOOLS:
                for day in (-1, 0, 15, -2):
                    self.check_answer([-1], make(school, day), *self.house)
            for day in NO_DAYS:
                for school in (1, 2):
                    self.check_answer([-1], make(school, day), *self.house)


class TwoTreesTest(ToldCase):
    def test_days(self):
        for make, told in COMPARISONS:
            for aday, a in DAYS:
                for bday, b in DAYS:
                    self.check_answer(told[a, b], make(1, aday, 1, bday), *self.house)

    def test_two_schools(self):
        for make, told in COMPARISONS:
            for a, b in ((1, 2), (2, 3), (3, 1), (2, 1), (3, 2), (1, 3)):
                calls = [load(a, EARLY), publish(a, 10), load(b, LATE), publish(b, 5), load(a, LATE), load(b, DRAFT)]
                self.check_answer(told[0, 1], make(a, 12, b, 7), *calls)
                self.check_answer(told[0, 2], make(a, 12, b, -1), *calls)
                self.check_answer(told[1, 1], make(a, -1, b, 7), *calls)
                self.check_answer(told[1, 2], make(a, -1, b, -1), *calls)
                self.check_answer(told[2, 0], make(b, -1, a, 10), *calls)

    def test_wrong_school_or_day(self):
        for make, told in COMPARISONS:
            for school in NO_SCHOOLS:
                self.check_answer([-1], make(school, -1, 1, -1), *self.house)
                self.check_answer([-1], make(1, -1, school, -1), *self.house)
                self.check_answer([-1], make(school, 15, 1, 15), *self.house)
                self.check_answer([-1], make(1, 15, school, 15), *self.house)
            for day in NO_DAYS:
                self.check_answer([-1], make(1, day, 1, -1), *self.house)
                self.check_answer([-1], make(1, 15, 1, day), *self.house)

    def test_no_version(self):
        for make, told in COMPARISONS:
            for day in BEFORE_ALL:
                self.check_answer([-7], make(1, day, 1, -1), *self.house)
                self.check_answer([-7], make(1, -1, 1, day), *self.house)
                self.check_answer([-7], make(1, 15, 2, day), *self.house)
                self.check_answer([-7], make(3, MOST_DAY, 1, 15), *self.house)

    def test_first_tree_first(self):
        for make, told in COMPARISONS:
            for b, bday in ((0, -1), (4, 15), (1, -2), (1, MOST_DAY + 1), (-1, FAR)):
                self.check_answer([-7], make(1, 9, b, bday), *self.house)
                self.check_answer([-7], make(2, 15, b, bday), *self.house)
                self.check_answer([-1], make(b, bday, 1, 9), *self.house)
            self.check_answer([-1], make(0, 9, 1, 9), *self.house)
            self.check_answer([-1], make(1, -1, 0, 9), *self.house)


if __name__ == "__main__":
    unittest.main()
