"""The questions about two trees: diff, clashes, distance."""

import random
import unittest

from tests.line import (
    MOST_KEY, QuestionCase, apply, ask_all, clashes, diff, distance, in_brackets, in_bytes, load, side_by_side, text,
)
from tests.model import text_of
from tests.samples import DEEP, EMPTY, FLOORS, FULL, HOLLOW, TOPS, TOWERS, full_held, full_homed, full_key

SAMPLES = (EMPTY, HOLLOW, TOPS, DEEP, FULL)


def tree_by_chance(draw, most):
    """Groups and specimens with keys up to most."""
    groups = []
    for key in draw.sample(range(1, most + 1), draw.randrange(0, min(most, 32) + 1)):
        above = draw.choice([told for told in groups if told[1] < 8] + [(0, 0, 0)])
        groups.append((key, draw.randrange(above[1] + 1, 9), above[0]))
    specimens = draw.sample(range(1, 2 * most + 1), draw.randrange(0, min(2 * most, 64) + 1)) if groups else []
    return groups, [(x, draw.choice(groups)[0]) for x in specimens]


class ComparedCase(QuestionCase):
    def check_compared(self, make, one, other, expected):
        """Of school 1's draft and school 2's."""
        calls = [load(1, "8:77"), load(1, one), load(2, "7:88"), load(2, other)]
        self.check_answer(expected, make(1, -1, 2, -1), *calls)


class DiffTest(ComparedCase):
    def check_diff(self, one, other, rows):
        self.check_compared(diff, one, other, [len(rows)] + sum(rows, []))

    def test_same(self):
        for written in SAMPLES:
            self.check_diff(written, written, [])
        self.check_diff("1:1[1 2]{2:2,2:3}", "1:1[2 1]{2:3,2:2}", [])

    def test_groups(self):
        self.check_diff("1:1", "1:1,2:2", [[1, 2, 2, 0]])
        self.check_diff("1:1,2:2", "1:1", [[2, 2, 0, 0]])
        self.check_diff("1:1,2:2", "1:1,3:2", [[1, 2, 3, 0]])
        self.check_diff("1:1,2:2", "1:1{2:2}", [[1, 2, 2, 1]])
        self.check_diff("1:1{2:2}", "1:1,2:2", [[1, 2, 2, 0]])
        self.check_diff("1:1{3:3},1:2", "1:1,1:2{3:3}", [[1, 3, 3, 2]])
        self.check_diff("1:1{3:3},1:2", "1:1,1:2{4:3}", [[1, 3, 4, 2]])

    def test_specimens(self):
        self.check_diff("1:1,1:2", "1:1[5],1:2", [[3, 5, 1, 0]])
        self.check_diff("1:1[5],1:2", "1:1,1:2[5]", [[3, 5, 2, 0]])
        self.check_diff("1:1[5],1:2", "1:1,1:2", [[4, 5, 0, 0]])

    def test_group_and_specimen_of_one_number(self):
        self.check_diff("1:1", "1:1[2],1:2", [[1, 2, 1, 0], [3, 2, 1, 0]])
        self.check_diff("1:1[2],1:2", "1:1", [[2, 2, 0, 0], [4, 2, 0, 0]])

    def test_all_kinds_in_order(self):
        one = "1:1[10 11]{3:2[12 13]},1:30[9],1:4"
        other = "1:100[12]{2:1[13 14]{3:7[8]}},1:20,1:4[10]"
        self.check_diff(one, other, [
            [1, 1, 2, 100], [1, 7, 3, 1], [1, 20, 1, 0], [1, 100, 1, 0], [2, 2, 0, 0], [2, 30, 0, 0], [3, 8, 7, 0],
            [3, 10, 4, 0], [3, 12, 100, 0], [3, 13, 1, 0], [3, 14, 1, 0], [4, 9, 0, 0], [4, 11, 0, 0]])
        self.check_diff(other, one, [
            [1, 1, 1, 0], [1, 2, 3, 1], [1, 30, 1, 0], [2, 7, 0, 0], [2, 20, 0, 0], [2, 100, 0, 0], [3, 9, 30, 0],
            [3, 10, 1, 0], [3, 11, 1, 0], [3, 12, 2, 0], [3, 13, 2, 0], [4, 8, 0, 0], [4, 14, 0, 0]])

    def test_only_what_is_not_the_same(self):
        # What a group holds is no matter, nor how deep it is: only its rank and its parent are.
        self.check_diff("1:1{2:2{3:3[5 6]}}", "2:2{3:3[5]}", [[1, 2, 2, 0], [2, 1, 0, 0], [4, 6, 0, 0]])

    def test_hollow(self):
        self.check_diff(EMPTY, HOLLOW, [
            [1, 1, 1, 0], [1, 2, 2, 0], [1, 3, 5, 2], [1, 4, 8, 9], [1, 5, 1, 0], [1, 9, 4, 2], [3, 6, 5, 0]])
        self.check_diff(HOLLOW, EMPTY, [[2, key, 0, 0] for key in (1, 2, 3, 4, 5, 9)] + [[4, 6, 0, 0]])

    def test_several_on_top(self):
        self.check_diff(EMPTY, TOPS, [
            [1, 2, 1, 0], [1, 4, 7, 2], [1, 7, 8, 0], [1, 10, 3, 0], [3, 1, 2, 0], [3, 2, 7, 0], [3, 3, 4, 0],
            [3, 4, 7, 0], [3, 5, 10, 0], [3, 9, 2, 0]])

    def test_deep(self):
        self.check_diff(EMPTY, DEEP, [[1, key, 9 - key, (key + 1) % 9] for key in range(1, 9)] +
                        [[3, x, 19 - x, 0] for x in range(11, 19)])

    def test_full(self):
        made = [[1, full_key(tower, rank), rank, full_key(tower, rank - 1) if rank > 1 else 0]
                for tower in TOWERS for rank in FLOORS]
        made += [[3, x, full_key(tower, rank), 0]
                 for tower in TOWERS for rank in FLOORS for x in full_homed(tower, rank)]
        gone = [[2, full_key(tower, rank), 0, 0] for tower in TOWERS for rank in FLOORS]
        gone += [[4, x, 0, 0] for tower in TOWERS for x in full_held(tower, 1)]
        self.check_diff(EMPTY, FULL, made)
        self.check_diff(FULL, EMPTY, gone)

    def test_edges_of_keys(self):
        self.check_diff("1:1[1]", "1:1000000000[1000000000]", [
            [1, MOST_KEY, 1, 0], [2, 1, 0, 0], [3, MOST_KEY, MOST_KEY, 0], [4, 1, 0, 0]])

    def check_applied(self, one, other):
        """The changes from the one text's tree to the other's make it when they're applied."""
        calls = [load(1, "8:77"), load(1, one), load(2, "7:88"), load(2, other)]
        told = ask_all(calls + [diff(1, -1, 2, -1)])[-1]
        self.assertEqual(len(told), 1 + 4 * told[0])
        rows = [told[start:start + 4] for start in range(1, len(told), 4)]
        given = ask_all(calls + [apply(1, rows), text(1, -1), diff(1, -1, 2, -1)])[-3:]
        self.assertEqual(given, [[-6 if one == other else 0], [len(other)] + in_bytes(other), [0]], (one, other))
        for row in rows:
            fewer = [told for told in rows if told != row]
            given = ask_all(calls + [apply(1, fewer), diff(1, -1, 2, -1)])[-1]
            self.assertNotEqual(given, [0], (row, one, other))

    def test_applied(self):
        for one in SAMPLES:
            for other in SAMPLES:
                self.check_applied(one, other)

    def test_applied_by_chance(self):
        draw = random.Random(21)
        for number in range(80):
            most = (4, 8, 20, 40)[number % 4]
            self.check_applied(text_of(tree_by_chance(draw, most)), text_of(tree_by_chance(draw, most)))


class ClashesTest(ComparedCase):
    def check_clashes(self, one, other, pairs):
        self.check_compared(clashes, one, other, [len(pairs)] + [key for pair in pairs for key in pair])
        back = sorted((b, a) for a, b in pairs)
        self.check_compared(clashes, other, one, [len(back)] + [key for pair in back for key in pair])

    def test_example(self):
        self.check_clashes("5:1{7:2[8 9],7:3[10]}", "5:1{7:2[8],7:3[9 10]}", [(2, 3)])

    def test_same(self):
        for written in SAMPLES:
            self.check_clashes(written, written, [])

    def test_apart(self):
        self.check_clashes("1:1[1 2]", "1:1[3 4]", [])
        for written in SAMPLES:
            self.check_clashes(written, "1:1[1000 1001]{2:2[1002]}", [])

    def test_within(self):
        self.check_clashes("1:1[1 2]", "1:2[1 2 3]", [])
        self.check_clashes("1:1[1]", "1:2[1]", [])
        self.check_clashes("1:1[1 2],1:2[3]", "1:3[1 2 3]", [])

    def test_other_keys_and_same_specimens(self):
        self.check_clashes("1:1[1 2],1:2[3 4]", "5:8[3 4],5:9[1 2]", [])
        self.check_clashes("1:1{2:2[1 2]}", "5:8[2 3]", [(1, 8), (2, 8)])

    def test_same_keys_and_other_specimens(self):
        self.check_clashes("1:1[1 2],1:2[3]", "1:1[2 3],1:2[1]", [(1, 1)])

    def test_order(self):
        self.check_clashes("1:10[1 2],1:9[3 4]", "1:100[1 3],1:11[2 4]", [(9, 11), (9, 100), (10, 11), (10, 100)])

    def test_one_of_each(self):
        self.check_clashes("1:1[1 2]", "1:2[2 3]", [(1, 2)])
        self.check_clashes("1:1[1 2 3 4 5]", "1:2[5 6]", [(1, 2)])

    def test_hollow(self):
        self.check_clashes("1:1,1:2[1 2]{2:3}", "1:4[2 3],1:5", [(2, 4)])
        self.check_clashes(HOLLOW, EMPTY, [])
        self.check_clashes(EMPTY, EMPTY, [])

    def test_several_on_top(self):
        self.check_clashes(TOPS, "1:1[1 2 5],2:6[3 4]", [(2, 1), (2, 6), (7, 1), (7, 6)])

    def test_deep(self):
        self.check_clashes(DEEP, "1:1[18 19]", [(key, 1) for key in range(2, 9)])
        self.check_clashes(DEEP, "1:1[14 11]", [(key, 1) for key in range(5, 8)])

    def test_full(self):
        self.check_clashes(FULL, "1:1[%d %d]" % (full_homed(1, 8)[0], full_homed(2, 8)[0]), [
            (full_key(tower, rank), 1) for tower in (1, 2) for rank in FLOORS])
        # Of 64 specimens in a ring, 32 pairs next to each other in the one tree, and the pairs between in the other.
        one = ",".join("1:%d[%d %d]" % (key, 2 * key, 2 * key + 1) for key in range(1, 33))
        other = ",".join("1:%d[%d %d]" % (key, 2 * key + 1, 2 * key + 2 if key < 32 else 2) for key in range(1, 33))
        self.check_clashes(one, other, sorted([(key, key) for key in range(1, 33)] +
                                              [(key % 32 + 1, key) for key in range(1, 33)]))

    def test_all_pairs(self):
        rows = ",".join("1:%d%s" % (key, in_brackets(8 * key, 8)) for key in range(1, 9))
        columns = ",".join("1:%d[%s]" % (key, " ".join(str(8 * row + key - 1) for row in range(1, 9)))
                           for key in range(1, 9))
        self.check_clashes(rows, columns, [(a, b) for a in range(1, 9) for b in range(1, 9)])


class DistanceTest(ComparedCase):
    def check_distance(self, one, other, there, back):
        self.check_compared(distance, one, other, [there, back])
        self.check_compared(distance, other, one, [back, there])

    def test_example(self):
        self.check_distance("5:1{7:2[8 9],7:3[10]}", "5:1{7:2[8],7:3[9 10]}", 2, 2)

    def test_same(self):
        for written in SAMPLES:
            self.check_distance(written, written, 0, 0)

    def test_apart(self):
        self.check_distance("1:1[1 2]{2:2[3]}", "1:1[4]", 2, 1)
        self.check_distance(FULL, TOPS, 32, 4)
        self.check_distance(DEEP, HOLLOW, 8, 1)

    def test_same_sets_of_other_groups(self):
        self.check_distance("1:1[1 2],1:2[3 4]", "5:8[3 4],7:9[2 1]", 0, 0)
        self.check_distance("1:1[1]{2:2[2]}", "3:3{4:4[1]{5:5[2]}}", 0, 0)

    def test_groups_that_hold_the_same_make_one_set(self):
        self.check_distance("1:1{2:2{3:3[1 2]}}", EMPTY, 1, 0)
        self.check_distance("1:1{2:2{3:3[1 2]}}", "1:1[1 2]", 0, 0)
        self.check_distance("1:1{2:2{3:3[1 2]}}", "1:1{2:2[1]}", 1, 1)

    def test_groups_that_hold_nothing_make_no_set(self):
        self.check_distance("1:1{2:2},1:3", EMPTY, 0, 0)
        self.check_distance("1:1", "2:2{3:3}", 0, 0)
        self.check_distance(HOLLOW, "1:1[6]", 0, 0)
        self.check_distance(HOLLOW, EMPTY, 1, 0)

    def test_within(self):
        self.check_distance("1:1[1 2 3]", "1:1[1 2]", 1, 1)
        self.check_distance("1:1[1]{2:2[2]}", "1:1[1 2]", 1, 0)

    def test_several_on_top(self):
        self.check_distance(TOPS, "1:1[5],1:2[2 4],1:3[1]", 2, 1)

    def test_deep_and_full(self):
        self.check_distance(DEEP, "1:1" + in_brackets(11, 8), 7, 0)
        self.check_distance(DEEP, EMPTY, 8, 0)
        self.check_distance(FULL, EMPTY, 32, 0)
        self.check_distance(FULL, "1:1[%d %d]" % tuple(full_homed(3, 8)), 31, 0)
        self.check_distance("1:1" + in_brackets(1, 64) + "," + side_by_side(2, 31), FULL, 1, 32)


if __name__ == "__main__":
    unittest.main()
