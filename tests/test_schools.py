"""Earlier drafts, versions, and the interface."""

import unittest

from groupschools.schools import answers
from tests.line import (
    FAR, MOST_DAY, LineCase, QuestionCase, ReadOnly, agree, apply, ask, ask_all, check, clashes, closer, common, counts,
    diff, dissolve, distance, fetch, group, holds, level, load, lump, move, path, publish, put, rank, read_answers,
    split, take, text, topmost, undo, versions,
)
from tests.samples import FULL

NO_SCHOOLS = (0, 4, -1, FAR, -FAR)


class UndoTest(LineCase):
    def test_each_edit_is_undone(self):
        edits = [
            group(1, 9, 1, 0), put(1, 60, 1), put(1, 10, 2), take(1, 10), move(1, 2, 5), lump(1, 1, 5),
            split(1, 1, 9, [2], [10]), rank(1, 2, 3), dissolve(1, 2), load(1, "1:1"), fetch(1, 2, -1),
            apply(1, [[1, 9, 1, 0], [4, 10, 0, 0], [1, 2, 3, 5]]), agree(1, 1, -1, 2, -1),
        ]
        for edit in edits:
            with self.subTest(edit=edit):
                told = ask([load(1, self.text), edit, load(1, self.text), undo(1), undo(1), load(1, self.text)])
                self.assertEqual(told, [0, 0, 0, 0, 0, -6], edit)
                self.check_draft(self.text, edit, undo(1))
                self.check_draft("", edit, undo(1), undo(1))
                self.assertEqual(self.after(edit, undo(1), undo(1), undo(1)), -8)

    def test_refused(self):
        self.check_refusals([(-1, [undo(school) for school in NO_SCHOOLS])])
        self.assertEqual(ask([undo(1), undo(2), undo(3)]), [-8, -8, -8])

    def test_undone_is_gone(self):
        self.assertEqual(ask([load(1, "1:1"), undo(1), undo(1), load(1, "")]), [0, 0, -8, -6])
        calls = [load(1, "1:1"), load(1, "1:2"), undo(1), load(1, "1:3"), undo(1), load(1, "1:1"), undo(1), undo(1)]
        self.assertEqual(ask(calls), [0, 0, 0, 0, 0, -6, 0, -8])

    def test_only_the_school_told(self):
        calls = [load(1, "1:1"), load(2, "1:2"), undo(2), load(1, "1:1"), undo(2), undo(3), undo(1)]
        self.assertEqual(ask(calls), [0, 0, 0, -6, -8, -8, 0])

    def test_refused_edit_is_no_earlier_draft(self):
        self.assertEqual(self.after(undo(1), undo(1)), -8)
        told = ask([load(1, self.text), group(1, 1, 1, 0), load(1, self.text), apply(1, []), undo(1), undo(1)])
        self.assertEqual(told, [0, -2, -6, -6, 0, -8])

    def edits(self, count):
        return [load(1, "1:%d" % (number + 1)) for number in range(count)]

    def test_twelve_earlier_drafts(self):
        self.assertEqual(ask(self.edits(12) + [undo(1)] * 13), [0] * 24 + [-8])
        self.assertEqual(ask(self.edits(12) + [undo(1)] * 12 + [load(1, "")])[-1], -6)

    def test_oldest_is_forgotten(self):
        told = ask(self.edits(13) + [undo(1)] * 13 + [load(1, "1:1")])
        self.assertEqual(told, [0] * 25 + [-8, -6])
        told = ask(self.edits(20) + [undo(1), load(1, "1:19")] + [undo(1)] * 12 + [load(1, "1:8")])
        self.assertEqual(told, [0] * 21 + [-6] + [0] * 11 + [-8, -6])

    def test_refused_edit_forgets_nothing(self):
        told = ask(self.edits(12) + [load(1, "1:12"), group(1, 12, 1, 0)] + [undo(1)] * 12 + [load(1, "")])
        self.assertEqual(told, [0] * 12 + [-6, -2] + [0] * 12 + [-6])

    def test_publish_is_no_edit(self):
        self.assertEqual(self.after(publish(1, 3), undo(1), undo(1)), -8)

    def test_edit_after_undo(self):
        told = ask(self.edits(12) + [undo(1)] * 2 + [load(1, "2:1"), load(1, "2:2"), load(1, "2:3")] + [undo(1)] * 13)
        self.assertEqual(told, [0] * 29 + [-8])


class PublishTest(LineCase):
    def test_draft_stays(self):
        self.check_draft(self.text, publish(1, 3))
        self.check_draft("", publish(1, 3), undo(1))

    def test_version_stays_as_it_was(self):
        edits = [
            group(1, 9, 1, 0), put(1, 60, 1), take(1, 10), move(1, 2, 5), lump(1, 1, 5), split(1, 1, 9, [2], [10]),
            rank(1, 2, 3), dissolve(1, 2), load(1, ""), apply(1, [[4, 10, 0, 0]]), undo(1),
        ]
        for edit in edits:
            self.assertEqual(self.after(publish(1, 3), edit, fetch(2, 1, 3), load(2, self.text)), -6, edit)

    def test_fetched_version_stays_as_it_was(self):
        told = self.after(publish(1, 3), fetch(2, 1, 3), group(2, 9, 1, 0), put(2, 10, 9), fetch(3, 1, 3),
                          load(3, self.text))
        self.assertEqual(told, -6)

    def test_days(self):
        self.assertEqual(ask([publish(1, 0), publish(1, MOST_DAY), publish(1, 1)]), [0, 0, 0])
        self.check_refusals([(-1, [publish(1, day) for day in (-1, -2, MOST_DAY + 1, FAR, -FAR)])])

    def test_refused(self):
        self.check_refusals([(-1, [publish(school, 3) for school in NO_SCHOOLS])])
        self.assertEqual(ask([publish(1, 3), publish(1, 3), publish(2, 3), publish(2, 3)]), [0, -2, 0, -2])

    def test_same_day_again_changes_nothing(self):
        told = ask([load(1, "1:1"), publish(1, 3), load(1, "1:2"), publish(1, 3), fetch(2, 1, 3), load(2, "1:1")])
        self.assertEqual(told, [0, 0, 0, -2, 0, -6])

    def test_sixteen_versions_of_one_school(self):
        calls = [publish(2, day) for day in range(16)]
        self.assertEqual(ask(calls + [publish(2, 16), publish(1, 0)]), [0] * 16 + [-9, -9])

    def test_sixteen_versions_of_all_schools(self):
        calls = [publish(1 + day % 3, day) for day in range(16)]
        wrong = [publish(1, 99), publish(2, 99), publish(3, 99), publish(1, 0), publish(0, 0), publish(1, -1)]
        self.assertEqual(ask(calls + wrong), [0] * 16 + [-9, -9, -9, -2, -1, -1])

    def test_full_changes_nothing(self):
        calls = [publish(1 + day % 3, day) for day in range(16)] + [load(1, "1:1"), publish(1, 99)]
        self.assertEqual(ask(calls + [fetch(2, 1, 99), load(1, "1:1")])[-3:], [-9, -6, -6])

    def test_refused_publish_is_not_there(self):
        self.assertEqual(ask([publish(1, -1), publish(0, 3), fetch(1, 1, MOST_DAY)]), [-1, -1, -7])


class VersionsTest(QuestionCase):
    def test_none(self):
        for school in (1, 2, 3):
            self.check_answer([0], versions(school))
            self.check_answer([0], versions(school), load(school, "1:1"), publish(school % 3 + 1, 4))

    def test_days_ascend(self):
        calls = [publish(1, day) for day in (100, 9, MOST_DAY, 10, 0, 99)]
        self.check_answer([6, 0, 9, 10, 99, 100, MOST_DAY], versions(1), *calls)

    def test_each_school_has_its_own(self):
        calls = [publish(2, 8), publish(1, 5), publish(2, 3), load(1, "1:1"), publish(3, 5), publish(1, 4)]
        self.check_answer([2, 4, 5], versions(1), *calls)
        self.check_answer([2, 3, 8], versions(2), *calls)
        self.check_answer([1, 5], versions(3), *calls)

    def test_all_sixteen(self):
        self.check_answer([16] + list(range(16)), versions(2), *[publish(2, 15 - day) for day in range(16)])
        told = ask_all([publish(2, 15 - day) for day in range(16)] + [publish(2, 20), versions(2), versions(1)])
        self.assertEqual(told[-3:], [[-9], [16] + list(range(16)), [0]])

    def test_refused_publish_is_none(self):
        told = ask_all([publish(1, -1), publish(1, MOST_DAY + 1), publish(1, 3), publish(1, 3), versions(1)])
        self.assertEqual(told, [[-1], [-1], [0], [-2], [1, 3]])

    def test_edits_and_undo_leave_versions(self):
        calls = [load(1, "1:1"), publish(1, 3), undo(1), load(1, "1:2"), load(1, "")]
        self.check_answer([1, 3], versions(1), *calls)

    def test_refused(self):
        for school in NO_SCHOOLS:
            self.check_answer([-1], versions(school))
            self.check_answer([-1], versions(school), publish(1, 3))


class InterfaceTest(unittest.TestCase):
    # Every call with what it answers.
    rows = (
        (group(1, 1, 1, 0), [0]), (group(1, 2, 2, 1), [0]), (put(1, 5, 2), [0]), (put(1, 6, 1), [0]),
        (take(1, 6), [0]), (move(1, 2, 0), [0]), (lump(1, 1, 2), [-5]), (split(1, 2, 3, [], [5]), [0]),
        (rank(1, 3, 4), [0]), (dissolve(1, 2), [0]), (load(2, "5:7[1 2]{7:3[9],7:4}"), [0]), (fetch(3, 2, -1), [0]),
        (apply(3, [[4, 9, 0, 0]]), [0]), (agree(1, 2, -1, 3, -1), [0]), (undo(1), [0]), (publish(1, 7), [0]),
        (undo(4), [-1]), (publish(1, 7), [-2]), (text(1, 7), [10, 49, 58, 49, 44, 52, 58, 51, 91, 53, 93]),
        (holds(2, -1, 7), [3, 1, 2, 9]), (path(2, -1, 9), [2, 7, 5, 3, 7]), (common(2, -1, [9, 1]), [7]),
        (level(2, -1, 7), [2, 3, 1, 9, 4, 0]), (topmost(2, -1, 3, 9), [3]),
        (diff(2, -1, 3, -1), [1, 4, 9, 0, 0]), (clashes(2, -1, 3, -1), [0]), (distance(2, -1, 3, -1), [2, 1]),
        (closer(2, -1, 1, 2, 9), [0]), (versions(1), [1, 7]), (counts(2, -1), [3, 3, 2, 2]), (check("1:1[2]"), [1, 1]),
        (text(0, 7), [-1]), (holds(1, 6, 1), [-7]), (common(1, -1, []), [-1]), (check("1"), [-1]), (text(1, -1), [
            10, 49, 58, 49, 44, 52, 58, 51, 91, 53, 93]),
    )

    def line(self):
        return sum([call for call, answer in self.rows], [])

    def test_form_of_the_answers(self):
        self.assertEqual({call[0] for call, answer in self.rows}, set(range(27)))
        self.assertEqual(answers(self.line()), sum([[len(answer)] + answer for call, answer in self.rows], []))

    def test_one_call(self):
        self.assertEqual(answers([12, 1]), [1, -8])
        self.assertEqual(answers([0, 1, 1, 1, 0]), [1, 0])
        self.assertEqual(answers([8, 1, 0]), [1, -6])
        self.assertEqual(answers([5, 1, 1, 2, 0, 0]), [1, -4])
        self.assertEqual(answers([10, 1, 0]), [1, -6])
        self.assertEqual(answers([14, 1, -1]), [1, 0])
        self.assertEqual(answers([15, 1, -1, 1]), [1, -4])
        self.assertEqual(answers([16, 1, -1, 1]), [1, -4])
        self.assertEqual(answers([17, 1, -1, 1, 1]), [1, -4])
        self.assertEqual(answers([17, 1, -1, 0]), [1, -1])
        self.assertEqual(answers([18, 1, -1, 1]), [1, 0])
        self.assertEqual(answers([19, 1, -1, 1, 1]), [1, -4])
        self.assertEqual(answers([20, 1, -1, 2, -1]), [1, 0])
        self.assertEqual(answers([21, 1, -1, 2, -1]), [1, 0])
        self.assertEqual(answers([22, 1, -1, 2, -1]), [2, 0, 0])
        self.assertEqual(answers([23, 1, -1, 1, 2, 3]), [1, -4])
        self.assertEqual(answers([24, 1]), [1, 0])
        self.assertEqual(answers([25, 1, -1]), [4, 0, 0, 0, 0])
        self.assertEqual(answers([26, 0]), [2, 0, 0])

    def test_kinds_of_the_answers(self):
        given = answers(self.line())
        self.assertIs(type(given), list)
        self.assertEqual({type(number) for number in given}, {int})

    def test_nothing_handed_in_is_changed(self):
        line = self.line()
        answers(line)
        self.assertEqual(line, self.line())
        answers(ReadOnly(line))

    def test_nothing_is_kept(self):
        first = answers(self.line())
        first_again = list(first)
        self.assertEqual(answers(self.line()), first)
        answers([8, 1, 3, 49, 58, 49])
        self.assertEqual(answers(self.line()), first_again)
        self.assertEqual(answers([8, 1, 0]), [1, -6])

    def test_rows_go_by_their_own_length(self):
        calls = [load(1, "1:1[5 6]{2:2,2:3}"), split(1, 1, 4, [2, 3], [5]), undo(1), split(1, 1, 4, [2], [5, 6]),
                 load(1, "1:1{2:3},1:4[5 6]{2:2}")]
        self.assertEqual(ask(calls), [0, 0, 0, 0, -6])

    def test_many_calls(self):
        calls = [put(1, 1 + number % 64, 1 + number // 64 % 2) for number in range(298)]
        told = ask([group(1, 1, 1, 0), group(1, 2, 1, 0)] + calls)
        self.assertEqual(told, [0] * 300)

    def test_long_line(self):
        long = [load(1, "1:1{" * 525)] * 11
        self.assertEqual(ask(long), [-1] * 11)
        long = [check("{" * 2100)] * 11
        self.assertEqual(ask(long), [-1] * 11)
        long = [common(1, -1, list(range(1, 2101)))] * 11
        self.assertEqual(ask(long), [-4] * 11)

    def test_long_answers(self):
        # The full tree is asked 298 times, by each call that tells much of it.
        calls = [load(1, FULL), publish(1, 0)]
        questions = [text(1, 0), level(1, -1, 1), diff(2, -1, 1, 0), clashes(1, -1, 1, 0), common(1, 0, [110, 185])]
        told = ask_all(calls + [questions[number % 5] for number in range(298)])
        for number in range(2, 295):
            self.assertEqual(told[number], told[number + 5])
        self.assertEqual([answer[0] for answer in told[2:7]], [len(FULL), 4, 96, 0, 11])

    def test_questions_change_nothing(self):
        # Each question stands behind each other call once more, which must not show.
        questions = [call for call, answer in self.rows if call[0] >= 14]
        plain = answers(self.line())
        for question in questions:
            calls = sum([[call, question] for call, answer in self.rows], [])
            told = read_answers(answers(sum(calls, [])), len(calls))
            self.assertEqual(sum([[len(answer)] + answer for answer in told[::2]], []), plain)


if __name__ == "__main__":
    unittest.main()
