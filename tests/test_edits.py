"""The edits of single groups and specimens."""

import unittest

from tests.line import (
    FAR, MOST_KEY, LineCase, ask, dissolve, group, in_brackets, load, lump, move, put, rank, side_by_side, split,
    take, undo,
)

NO_KEYS = (0, -1, MOST_KEY + 1, FAR, -FAR)
NO_RANKS = (0, -1, 9, FAR, -FAR)
NO_SCHOOLS = (0, 4, -1, FAR, -FAR)


class GroupTest(LineCase):
    def test_done(self):
        self.check_draft(self.text + ",1:9", group(1, 9, 1, 0))
        self.check_draft("2:1[10]{4:2[20 21]{6:4[40]},5:3[30],3:9},2:5[50]", group(1, 9, 3, 1))
        self.check_draft("2:1[10]{4:2[20 21]{6:4[40]},5:3[30]},2:5[50]{8:9}", group(1, 9, 8, 5))

    def test_key_of_a_specimen(self):
        self.check_draft(self.text + ",1:10", group(1, 10, 1, 0))

    def test_bounds(self):
        self.check_draft("1:1", load(1, ""), group(1, 1, 1, 0))
        self.check_draft("8:1000000000", load(1, ""), group(1, MOST_KEY, 8, 0))
        self.check_draft("1:1000000000{8:1}", load(1, "1:1000000000"), group(1, 1, 8, MOST_KEY))

    def test_every_rank(self):
        for number in range(1, 9):
            self.check_draft("%d:1" % number, load(1, ""), group(1, 1, number, 0))

    def test_refused(self):
        self.check_refusals([
            (-1, [group(school, 9, 1, 0) for school in NO_SCHOOLS]),
            (-1, [group(1, key, 1, 0) for key in NO_KEYS]),
            (-1, [group(1, 9, number, 0) for number in NO_RANKS]),
            (-1, [group(1, 9, 1, parent) for parent in NO_KEYS if parent != 0]),
            (-2, [group(1, 1, 2, 0), group(1, 4, 8, 2)]),
            (-4, [group(1, 9, 8, 8), group(1, 9, 8, 9), group(1, 9, 8, MOST_KEY), group(1, 9, 8, 10)]),
            (-5, [group(1, 9, 2, 1), group(1, 9, 1, 1), group(1, 9, 5, 4)]),
        ])

    def test_first_refusal(self):
        self.check_refusals([
            (-1, [group(1, 1, 0, 0), group(1, 1, 1, -1), group(0, 1, 1, 0)]),
            (-2, [group(1, 1, 8, 9), group(1, 2, 1, 1)]),
        ])

    def test_full(self):
        self.text = side_by_side(1, 32)
        self.check_refusals([
            (-9, [group(1, 33, 1, 0), group(1, 33, 2, 1)]),
            (-5, [group(1, 33, 1, 1)]),
            (-4, [group(1, 33, 2, 40)]),
            (-2, [group(1, 32, 1, 0)]),
            (-1, [group(1, 33, 9, 0)]),
        ])

    def test_just_not_full(self):
        self.text = side_by_side(1, 31)
        self.check_draft(side_by_side(1, 32), group(1, 32, 1, 0))
        self.assertEqual(self.after(group(1, 32, 1, 0), group(1, 33, 1, 0)), -9)


class PutTest(LineCase):
    def test_done(self):
        self.check_draft("2:1[10]{4:2[20 21]{6:4[40]},5:3[30 31]},2:5[50]", put(1, 31, 3))
        self.check_draft("2:1[10 21]{4:2[20]{6:4[40]},5:3[30]},2:5[50]", put(1, 21, 1))
        self.check_draft("2:1[10]{4:2[20 21]{6:4},5:3[30]},2:5[40 50]", put(1, 40, 5))

    def test_bounds(self):
        self.text = "1:1000000000,1:1"
        self.check_draft("1:1000000000[1],1:1", put(1, 1, MOST_KEY))
        self.check_draft("1:1000000000,1:1[1000000000]", put(1, MOST_KEY, 1))

    def test_refused(self):
        self.check_refusals([
            (-1, [put(school, 9, 1) for school in NO_SCHOOLS]),
            (-1, [put(1, x, 1) for x in NO_KEYS]),
            (-1, [put(1, 9, key) for key in NO_KEYS]),
            (-4, [put(1, 9, 6), put(1, 10, 6), put(1, 9, MOST_KEY), put(1, 10, 10)]),
            (-6, [put(1, 10, 1), put(1, 40, 4), put(1, 50, 5)]),
        ])

    def test_first_refusal(self):
        self.check_refusals([(-1, [put(1, 0, 6), put(0, 10, 1)])])

    def test_full(self):
        self.text = "1:1" + in_brackets(1, 64) + ",1:2"
        self.check_refusals([
            (-9, [put(1, 65, 1), put(1, 65, 2)]),
            (-6, [put(1, 64, 1)]),
            (-4, [put(1, 65, 3)]),
            (-1, [put(1, 65, 0)]),
        ])
        self.check_draft("1:1" + in_brackets(1, 63) + ",1:2[64]", put(1, 64, 2))

    def test_just_not_full(self):
        self.text = "1:1" + in_brackets(1, 63) + ",1:2"
        self.check_draft("1:1" + in_brackets(1, 64) + ",1:2", put(1, 64, 1))
        self.assertEqual(self.after(put(1, 64, 1), put(1, 65, 1)), -9)


class TakeTest(LineCase):
    def test_done(self):
        self.check_draft("2:1{4:2[20 21]{6:4[40]},5:3[30]},2:5[50]", take(1, 10))
        self.check_draft("2:1[10]{4:2[20]{6:4[40]},5:3[30]},2:5[50]", take(1, 21))

    def test_bounds(self):
        self.text = "1:1[1 1000000000]"
        self.check_draft("1:1[1]", take(1, MOST_KEY))
        self.check_draft("1:1", take(1, MOST_KEY), take(1, 1))

    def test_refused(self):
        self.check_refusals([
            (-1, [take(school, 10) for school in NO_SCHOOLS]),
            (-1, [take(1, x) for x in NO_KEYS]),
            (-4, [take(1, 1), take(1, 11), take(1, MOST_KEY)]),
        ])

    def test_twice(self):
        self.assertEqual(self.after(take(1, 10), take(1, 10)), -4)


class MoveTest(LineCase):
    def test_done(self):
        self.check_draft("2:1[10]{5:3[30]},2:5[50]{4:2[20 21]{6:4[40]}}", move(1, 2, 5))
        self.check_draft("2:1[10]{5:3[30]},2:5[50],4:2[20 21]{6:4[40]}", move(1, 2, 0))
        self.check_draft("2:1[10]{4:2[20 21],5:3[30]{6:4[40]}},2:5[50]", move(1, 4, 3))

    def test_bounds(self):
        self.text = "1:1000000000,2:1"
        self.check_draft("1:1000000000{2:1}", move(1, 1, MOST_KEY))
        self.text = "1:1,2:1000000000"
        self.check_draft("1:1{2:1000000000}", move(1, MOST_KEY, 1))

    def test_refused(self):
        self.check_refusals([
            (-1, [move(school, 2, 5) for school in NO_SCHOOLS]),
            (-1, [move(1, key, 0) for key in NO_KEYS]),
            (-1, [move(1, 2, parent) for parent in NO_KEYS if parent != 0]),
            (-4, [move(1, 6, 0), move(1, 6, 1), move(1, 2, 6), move(1, 10, 0), move(1, 2, MOST_KEY)]),
            (-5, [move(1, 1, 5), move(1, 1, 1), move(1, 1, 2), move(1, 2, 4), move(1, 2, 3)]),
            (-6, [move(1, 1, 0), move(1, 2, 1), move(1, 4, 2)]),
        ])

    def test_first_refusal(self):
        self.check_refusals([(-1, [move(1, 0, 6), move(1, 6, -1), move(4, 1, 0)]), (-4, [move(1, 6, 6)])])


class LumpTest(LineCase):
    def test_done(self):
        self.check_draft("2:1[10 50]{4:2[20 21]{6:4[40]},5:3[30]}", lump(1, 1, 5))
        self.check_draft("2:5[10 50]{4:2[20 21]{6:4[40]},5:3[30]}", lump(1, 5, 1))

    def test_under_other_parents(self):
        self.text = "1:1{3:3[30]{5:5}},2:2{3:4[40]{5:6[60]}}"
        self.check_draft("1:1{3:3[30 40]{5:5,5:6[60]}},2:2", lump(1, 3, 4))
        self.check_draft("1:1,2:2{3:4[30 40]{5:5,5:6[60]}}", lump(1, 4, 3))

    def test_refused(self):
        self.check_refusals([
            (-1, [lump(school, 1, 5) for school in NO_SCHOOLS]),
            (-1, [lump(1, key, 5) for key in NO_KEYS]),
            (-1, [lump(1, 1, key) for key in NO_KEYS]),
            (-4, [lump(1, 1, 6), lump(1, 6, 1), lump(1, 10, 20), lump(1, 1, MOST_KEY), lump(1, MOST_KEY, 1)]),
            (-6, [lump(1, 1, 1), lump(1, 4, 4)]),
            (-5, [lump(1, 2, 3), lump(1, 3, 2), lump(1, 1, 2), lump(1, 2, 1)]),
        ])

    def test_first_refusal(self):
        self.check_refusals([(-1, [lump(1, 0, 0), lump(1, 6, 0), lump(0, 1, 1)]), (-4, [lump(1, 6, 6)])])


class SplitTest(LineCase):
    def test_done(self):
        self.check_draft("2:1[10]{5:3[30]},2:5[50],2:9{4:2[20 21]{6:4[40]}}", split(1, 1, 9, [2], []))
        self.check_draft("2:1{4:2[20 21]{6:4[40]},5:3[30]},2:5[50],2:9[10]", split(1, 1, 9, [], [10]))
        self.check_draft("2:1,2:5[50],2:9[10]{4:2[20 21]{6:4[40]},5:3[30]}", split(1, 1, 9, [3, 2], [10]))

    def test_within_a_parent(self):
        self.check_draft(
            "2:1[10]{4:2[21]{6:4[40]},5:3[30],4:9[20]},2:5[50]", split(1, 2, 9, [], [20]))
        self.check_draft(
            "2:1[10]{4:2[21],5:3[30],4:9[20]{6:4[40]}},2:5[50]", split(1, 2, 9, [4], [20]))

    def test_same_number_in_both_lists(self):
        self.text = "1:1[2 3]{2:2,2:3}"
        self.check_draft("1:1[3]{2:3},1:9[2]{2:2}", split(1, 1, 9, [2], [2]))

    def test_bounds(self):
        self.text = "1:1[1000000000]{2:1000000000}"
        self.check_draft("1:1,1:2[1000000000]{2:1000000000}", split(1, 1, 2, [MOST_KEY], [MOST_KEY]))
        self.text = "1:2[1]{2:1}"
        self.check_draft("1:2,1:1000000000[1]{2:1}", split(1, 2, MOST_KEY, [1], [1]))

    def test_refused(self):
        self.check_refusals([
            (-1, [split(school, 1, 9, [2], []) for school in NO_SCHOOLS]),
            (-1, [split(1, key, 9, [2], []) for key in NO_KEYS]),
            (-1, [split(1, 1, key, [2], []) for key in NO_KEYS]),
            (-1, [split(1, 1, 9, [2, key], []) for key in NO_KEYS]),
            (-1, [split(1, 1, 9, [2], [10, x]) for x in NO_KEYS]),
            (-1, [split(1, 1, 9, [2, 3, 2], []), split(1, 2, 9, [], [20, 21, 20]), split(1, 1, 9, [7, 7], [])]),
            (-2, [split(1, 1, 1, [2], []), split(1, 1, 5, [2], []), split(1, 1, 4, [], [10])]),
            (-4, [split(1, 6, 9, [2], []), split(1, MOST_KEY, 9, [], [10])]),
            (-4, [split(1, 1, 9, [4], []), split(1, 1, 9, [5], []), split(1, 1, 9, [1], []), split(1, 1, 9, [9], [])]),
            (-4, [split(1, 1, 9, [2, 6], []), split(1, 1, 9, [2], [11]), split(1, 1, 9, [], [20])]),
            (-4, [split(1, 1, 9, [10], []), split(1, 1, 9, [], [2]), split(1, 1, 9, [2], [10, 40])]),
            (-6, [split(1, 1, 9, [], []), split(1, 4, 9, [], [])]),
        ])

    def test_first_refusal(self):
        self.check_refusals([
            (-1, [split(1, 6, 1, [2, 2], []), split(1, 1, 1, [0], []), split(0, 6, 1, [], [])]),
            (-2, [split(1, 6, 1, [2], []), split(1, 1, 1, [], []), split(1, 1, 2, [4], [])]),
            (-4, [split(1, 6, 9, [], [])]),
        ])

    def test_full(self):
        self.text = "1:1[1]," + side_by_side(2, 31)
        self.check_refusals([
            (-9, [split(1, 1, 33, [], [1])]),
            (-6, [split(1, 1, 33, [], [])]),
            (-4, [split(1, 1, 33, [], [2]), split(1, 33, 34, [], [1])]),
            (-2, [split(1, 1, 32, [], [1])]),
        ])

    def test_just_not_full(self):
        self.text = "1:1[1]," + side_by_side(2, 30)
        self.check_draft("1:32[1]," + side_by_side(1, 31), split(1, 1, 32, [], [1]))

    def test_long_lists(self):
        rows = [split(1, 1, 9, list(range(100, 2200)), [10]), split(1, 1, 9, [2], list(range(100, 2200)))]
        self.check_refusals([(-4, rows)])


class RankTest(LineCase):
    def test_done(self):
        self.check_draft("2:1[10]{3:2[20 21]{6:4[40]},5:3[30]},2:5[50]", rank(1, 2, 3))
        self.check_draft("2:1[10]{5:2[20 21]{6:4[40]},5:3[30]},2:5[50]", rank(1, 2, 5))
        self.check_draft("1:1[10]{4:2[20 21]{6:4[40]},5:3[30]},2:5[50]", rank(1, 1, 1))
        self.check_draft("2:1[10]{4:2[20 21]{8:4[40]},5:3[30]},2:5[50]", rank(1, 4, 8))
        self.check_draft("2:1[10]{4:2[20 21]{6:4[40]},5:3[30]},8:5[50]", rank(1, 5, 8))

    def test_bounds(self):
        self.text = "2:1,2:1000000000"
        self.check_draft("8:1,1:1000000000", rank(1, 1, 8), rank(1, MOST_KEY, 1))

    def test_refused(self):
        self.check_refusals([
            (-1, [rank(school, 1, 1) for school in NO_SCHOOLS]),
            (-1, [rank(1, key, 1) for key in NO_KEYS]),
            (-1, [rank(1, 1, number) for number in NO_RANKS]),
            (-4, [rank(1, 6, 1), rank(1, 10, 1), rank(1, MOST_KEY, 8)]),
            (-5, [rank(1, 2, 2), rank(1, 2, 1), rank(1, 2, 6), rank(1, 2, 7), rank(1, 1, 4), rank(1, 1, 5)]),
            (-5, [rank(1, 4, 4), rank(1, 4, 1)]),
            (-6, [rank(1, 1, 2), rank(1, 2, 4), rank(1, 5, 2), rank(1, 4, 6)]),
        ])

    def test_first_refusal(self):
        self.check_refusals([(-1, [rank(1, 6, 9), rank(1, 0, 1), rank(0, 1, 2)])])


class DissolveTest(LineCase):
    def test_done(self):
        self.check_draft("2:1[10 20 21]{6:4[40],5:3[30]},2:5[50]", dissolve(1, 2))
        self.check_draft("2:1[10]{4:2[20 21 40],5:3[30]},2:5[50]", dissolve(1, 4))

    def test_on_top(self):
        self.check_draft("4:2[20 21]{6:4[40]},5:3[30],2:5[50]", take(1, 10), dissolve(1, 1))
        self.check_draft("2:1[10]{4:2[20 21]{6:4[40]},5:3[30]}", take(1, 50), dissolve(1, 5))

    def test_bounds(self):
        self.text = "1:1,1:1000000000"
        self.check_draft("1:1", dissolve(1, MOST_KEY))
        self.check_draft("1:1000000000", dissolve(1, 1))

    def test_refused(self):
        self.check_refusals([
            (-1, [dissolve(school, 2) for school in NO_SCHOOLS]),
            (-1, [dissolve(1, key) for key in NO_KEYS]),
            (-4, [dissolve(1, 6), dissolve(1, 10), dissolve(1, MOST_KEY)]),
            (-5, [dissolve(1, 1), dissolve(1, 5)]),
        ])


class OtherSchoolsTest(unittest.TestCase):
    def test_each_school_has_its_own_draft(self):
        calls = []
        for school in (1, 2, 3):
            calls += [group(school, 1, school, 0), put(school, 7, 1)]
        for school in (1, 2, 3):
            calls += [load(school, "%d:1[7]" % school), undo(school), load(school, "%d:1" % school)]
        self.assertEqual(ask(calls), [0, 0] * 3 + [-6, 0, -6] * 3)


if __name__ == "__main__":
    unittest.main()
