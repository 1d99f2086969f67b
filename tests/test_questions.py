"""The questions about one tree: text, holds, path, common, level, topmost, closer, counts."""

import random
import unittest

from tests.line import (
    FAR, MOST_KEY, QuestionCase, ask_all, closer, common, counts, dissolve, group, holds, in_brackets, in_bytes, level,
    load, lump, move, path, put, rank, side_by_side, split, text, topmost,
)
from tests.model import text_of
from tests.samples import (
    DEEP, EMPTY, FLOORS, FULL, HOLLOW, TOPS, TOWERS, full_held, full_homed, full_key,
)

NO_KEYS = (0, -1, MOST_KEY + 1, FAR, -FAR)
NO_RANKS = (0, -1, 9, FAR, -FAR)


def in_any_order(tree, draw, parent=0):
    """A text of the tree with groups and specimens in orders by chance."""
    parts = []
    for key, number, above in sorted(told for told in tree[0] if told[2] == parent):
        inside = [str(x) for x, home in sorted(tree[1]) if home == key]
        draw.shuffle(inside)
        below = in_any_order(tree, draw, key)
        parts.append("%d:%d" % (number, key) + ("[%s]" % " ".join(inside) if inside else "") +
                     ("{%s}" % below if below else ""))
    draw.shuffle(parts)
    return ",".join(parts)


def tree_by_chance(draw):
    """Groups and specimens with keys of one to ten figures."""
    def keys(most):
        drawn = {draw.randrange(1, 10 ** draw.randrange(1, 10)) for _ in range(most)} | {MOST_KEY}
        return draw.sample(sorted(drawn), draw.randrange(1, min(most, len(drawn)) + 1))
    groups = []
    for key in keys(32):
        above = draw.choice([told for told in groups if told[1] < 8] + [(0, 0, 0)])
        groups.append((key, draw.randrange(above[1] + 1, 9), above[0]))
    return groups, [(x, draw.choice(groups)[0]) for x in keys(64)]


class TextTest(QuestionCase):
    def check_text(self, loaded, written):
        self.check_draft_of(loaded, [len(written)] + in_bytes(written), text(1, -1))

    def test_samples(self):
        self.assertEqual(ask_all([text(1, -1)]), [[0]])
        for written in (EMPTY, HOLLOW, TOPS, DEEP, FULL):
            with self.subTest(written=written):
                self.check_text(written, written)

    def test_bytes(self):
        written = [53, 58, 55, 91, 49, 32, 50, 93, 123, 55, 58, 51, 91, 57, 93, 44, 55, 58, 52, 125]
        self.assertEqual(ask_all([load(1, "5:7[2 1]{7:4,7:3[9]}"), text(1, -1)]), [[0], [20] + written])

    def test_order_of_groups(self):
        self.check_text("1:100,2:9,3:10,4:99", "2:9,3:10,4:99,1:100")
        self.check_text("1:1{2:30{3:5,3:3},2:4{3:11,3:7,3:101}}", "1:1{2:4{3:7,3:11,3:101},2:30{3:3,3:5}}")

    def test_order_of_specimens(self):
        self.check_text("1:1[100 9 10 99 1]", "1:1[1 9 10 99 100]")
        self.check_text("1:2[7 3]{2:1[20 4 100]}", "1:2[3 7]{2:1[4 20 100]}")

    def test_figures_of_keys(self):
        keys = [10 ** figures for figures in range(10)] + [10 ** figures - 1 for figures in range(1, 10)]
        keys = sorted(keys)
        written = ",".join("1:%d[%d]" % (key, key) for key in keys)
        self.check_text(",".join("1:%d[%d]" % (key, key) for key in keys[::-1]), written)
        self.check_text("1:1[%s]" % " ".join(str(key) for key in keys[::-1]),
                        "1:1[%s]" % " ".join(str(key) for key in keys))

    def test_longest(self):
        groups = ["8:%d[%d %d]" % (MOST_KEY - 31 + number, MOST_KEY - 63 + 2 * number, MOST_KEY - 62 + 2 * number)
                  for number in range(32)]
        written = ",".join(groups)
        self.assertGreater(len(written), 1000)
        self.check_text(",".join(groups[::-1]), written)

    def test_after_edits(self):
        before = [group(1, 50, 2, 0), group(1, 7, 1, 0), group(1, 30, 4, 7), group(1, 4, 4, 7), put(1, 9, 30),
                  put(1, 12, 30), put(1, 3, 30), put(1, 5, 50)]
        for written, edits in (
                ("1:7{4:4,4:30[3 9 12]},2:50[5]", []),
                ("1:7{4:4,4:30[3 9 12],5:50[5]}", [rank(1, 50, 5), move(1, 50, 7)]),
                ("1:7{4:4[3 9 12]},2:50[5]", [lump(1, 4, 30)]),
                ("1:7{4:4,4:6[3 12],4:30[9]},2:50[5]", [split(1, 30, 6, [], [12, 3])]),
                ("1:7[3 9 12]{4:4},2:50[5]", [dissolve(1, 30)]),
        ):
            self.check_answer([len(written)] + in_bytes(written), text(1, -1), *before, *edits)

    def test_any_order(self):
        draw = random.Random(20)
        for _ in range(60):
            tree = tree_by_chance(draw)
            written = text_of(tree)
            calls = [load(school, in_any_order(tree, draw)) for school in (1, 2, 3)]
            told = ask_all(calls + [text(1, -1), text(2, -1), text(3, -1), load(1, written)])
            self.assertEqual(told, [[0]] * 3 + [[len(written)] + in_bytes(written)] * 3 + [[-6]])


class HoldsTest(QuestionCase):
    def check_holds(self, written, rows):
        for key, held in rows:
            self.check_draft_of(written, [len(held)] + held, holds(1, -1, key))

    def test_samples(self):
        self.check_holds(HOLLOW, [(1, []), (2, []), (3, []), (9, []), (4, []), (5, [6])])
        self.check_holds(TOPS, [(2, [1, 3, 9]), (4, [3]), (7, [2, 4]), (10, [5])])
        self.check_holds(DEEP, [(9 - number, list(range(10 + number, 19))) for number in FLOORS])
        self.check_holds(FULL, [(full_key(tower, number), full_held(tower, number))
                                for tower in TOWERS for number in FLOORS])

    def test_all_in_one(self):
        self.check_holds("1:1" + in_brackets(1, 64), [(1, list(range(1, 65)))])

    def test_order(self):
        self.check_holds("1:1[100 9]{2:2[10 1],2:3[99 1000000000]}", [
            (1, [1, 9, 10, 99, 100, MOST_KEY]), (2, [1, 10]), (3, [99, MOST_KEY])])

    def test_edges_of_keys(self):
        self.check_holds("1:1[5]{2:1000000000[7]}", [(1, [5, 7]), (MOST_KEY, [7])])

    def test_refused(self):
        for written in (EMPTY, HOLLOW, TOPS, FULL):
            for key in NO_KEYS + (6, 99, MOST_KEY):
                self.check_draft_of(written, [-4], holds(1, -1, key))

    def test_specimen_is_no_group(self):
        self.check_draft_of("1:1[2]", [-4], holds(1, -1, 2))


class PathTest(QuestionCase):
    def check_path(self, written, rows):
        for x, groups in rows:
            self.check_draft_of(written, [len(groups)] + [number for told in groups for number in told],
                                path(1, -1, x))

    def test_samples(self):
        self.check_path(HOLLOW, [(6, [(5, 1)])])
        self.check_path(TOPS, [(1, [(2, 1)]), (9, [(2, 1)]), (3, [(2, 1), (4, 7)]), (2, [(7, 8)]), (5, [(10, 3)])])
        self.check_path(DEEP, [(10 + number, [(9 - above, above) for above in FLOORS[:number]]) for number in FLOORS])
        self.check_path(FULL, [
            (x, [(full_key(tower, above), above) for above in FLOORS[:number]])
            for tower in TOWERS for number in FLOORS for x in full_homed(tower, number)])

    def test_edges_of_keys(self):
        self.check_path("1:1000000000[1]{8:1[1000000000]}", [
            (1, [(MOST_KEY, 1)]), (MOST_KEY, [(MOST_KEY, 1), (1, 8)])])

    def test_refused(self):
        for written in (EMPTY, HOLLOW, TOPS, FULL):
            for x in NO_KEYS + (7, 99, MOST_KEY):
                self.check_draft_of(written, [-4], path(1, -1, x))

    def test_group_is_no_specimen(self):
        self.check_draft_of("1:1[2]", [-4], path(1, -1, 1))


class CommonTest(QuestionCase):
    def check_common(self, written, rows):
        for key, specimens in rows:
            self.check_draft_of(written, [key], common(1, -1, specimens))

    def test_one_alone(self):
        self.check_common(HOLLOW, [(5, [6])])
        self.check_common("1:1,1:2[3]{2:3,2:4[1 2]{3:6}},1:5", [(4, [1]), (4, [2, 1]), (2, [3]), (2, [3, 1])])
        self.check_common(TOPS, [(2, [1]), (2, [9]), (4, [3]), (7, [2]), (7, [4]), (10, [5])])

    def test_several(self):
        self.check_common(TOPS, [(2, [1, 9]), (2, [3, 1]), (2, [9, 3]), (7, [4, 2])])
        self.check_common("1:1{3:2[1 2]{6:3[3],6:4[4 5]},3:5[6]}", [
            (2, [1, 2]), (2, [3, 4]), (2, [4, 1]), (4, [5, 4]), (1, [6, 1]), (1, [3, 6]), (1, [6, 5, 4, 3, 2, 1]),
            (2, [3, 4, 5]), (2, [5, 4, 3])])

    def test_none_in_common(self):
        self.check_common(TOPS, [(0, [1, 2]), (0, [5, 3]), (0, [1, 9, 3, 2]), (0, [5, 4, 3, 2, 1, 9])])

    def test_groups_that_hold_the_same(self):
        self.check_common("1:1{2:2{3:3[7 8]}}", [(3, [7, 8]), (3, [7])])

    def test_deep(self):
        self.check_common(DEEP, [(9 - number, [18, 10 + number]) for number in FLOORS[:7]])
        self.check_common(DEEP, [(8, list(range(11, 19))), (8, list(range(18, 10, -1))), (1, [18]), (5, [16, 14, 15])])

    def test_full(self):
        for tower in TOWERS:
            self.check_common(FULL, [(full_key(tower, number), full_held(tower, number)) for number in FLOORS])
        self.check_common(FULL, [(0, [x for tower in TOWERS for x in full_held(tower, 1)])])
        self.check_common("1:1" + in_brackets(1, 64), [(1, list(range(1, 65)))])

    def test_edges_of_keys(self):
        self.check_common("1:1000000000[1 1000000000]", [(MOST_KEY, [MOST_KEY, 1])])

    def test_wrong_lists(self):
        for written in (EMPTY, TOPS):
            self.check_common(written, [(-1, [])])
            self.check_common(written, [(-1, [x]) for x in NO_KEYS])
            self.check_common(written, [(-1, [1, 3, x]) for x in NO_KEYS])
            self.check_common(written, [(-1, [1, 1]), (-1, [1, 3, 9, 1]), (-1, [3, 1, 1]), (-1, [1] * 2100)])

    def test_not_there(self):
        self.check_common(EMPTY, [(-4, [1]), (-4, [MOST_KEY])])
        self.check_common(HOLLOW, [(-4, [1]), (-4, [6, 5]), (-4, [5, 6])])
        self.check_common(TOPS, [(-4, [10]), (-4, [1, 9, 3, 6]), (-4, [7, 2]), (-4, [1, 2, 8])])
        self.check_common(TOPS, [(-4, list(range(1, 2101))), (-4, list(range(2100, 0, -1)))])

    def test_first_refusal(self):
        self.check_common(TOPS, [(-1, [6, 6]), (-1, [6, 0]), (-1, [0, 6]), (-1, [6, 7, 1, 6]), (-1, [MOST_KEY + 1, 6])])


class LevelTest(QuestionCase):
    def check_level(self, written, rows):
        for number, groups in rows:
            expected = [len(groups)]
            for key, held in groups:
                expected += [key, len(held)] + held
            self.check_draft_of(written, expected, level(1, -1, number))

    def test_samples(self):
        self.check_level(EMPTY, [(number, []) for number in FLOORS])
        self.check_level(HOLLOW, [
            (1, [(1, []), (5, [6])]), (2, [(2, [])]), (3, []), (4, [(9, [])]), (5, [(3, [])]), (6, []), (7, []),
            (8, [(4, [])])])
        self.check_level(TOPS, [
            (1, [(2, [1, 3, 9])]), (2, []), (3, [(10, [5])]), (4, []), (5, []), (6, []), (7, [(4, [3])]),
            (8, [(7, [2, 4])])])
        self.check_level(DEEP, [(number, [(9 - number, list(range(10 + number, 19)))]) for number in FLOORS])
        self.check_level(FULL, [
            (number, [(full_key(tower, number), full_held(tower, number)) for tower in TOWERS]) for number in FLOORS])

    def test_order(self):
        self.check_level("2:100[3 1],2:9{4:7[20 5]},1:8{2:10[2]},2:99", [
            (2, [(9, [5, 20]), (10, [2]), (99, []), (100, [1, 3])])])

    def test_all_of_one_rank(self):
        self.check_level("1:1" + in_brackets(1, 64) + "," + side_by_side(2, 31), [
            (1, [(1, list(range(1, 65)))] + [(key, []) for key in range(2, 33)])])

    def test_refused(self):
        for written in (EMPTY, TOPS, FULL):
            for number in NO_RANKS:
                self.check_draft_of(written, [-1], level(1, -1, number))


class TopmostTest(QuestionCase):
    def check_topmost(self, written, rows):
        for key, family, x in rows:
            self.check_draft_of(written, [key], topmost(1, -1, family, x))

    def test_families(self):
        for number in FLOORS:
            family = 1 if number <= 4 else 2 if number <= 6 else 3
            self.check_topmost("%d:3[7]" % number, [(3 if told == family else 0, told, 7) for told in (1, 2, 3)])

    def test_samples(self):
        self.check_topmost(HOLLOW, [(5, 1, 6), (0, 2, 6), (0, 3, 6)])
        self.check_topmost(TOPS, [
            (2, 1, 1), (0, 2, 1), (0, 3, 1), (2, 1, 3), (0, 2, 3), (4, 3, 3), (0, 1, 2), (0, 2, 2), (7, 3, 2),
            (10, 1, 5), (0, 3, 5)])
        self.check_topmost(DEEP, [(8, 1, x) for x in range(11, 19)])
        self.check_topmost(DEEP, [(4 if x >= 15 else 0, 2, x) for x in range(11, 19)])
        self.check_topmost(DEEP, [(2 if x >= 17 else 0, 3, x) for x in range(11, 19)])
        for tower in TOWERS:
            for number in FLOORS:
                first = full_homed(tower, number)[0]
                self.check_topmost(FULL, [
                    (full_key(tower, 1), 1, first), (full_key(tower, 5) if number >= 5 else 0, 2, first),
                    (full_key(tower, 7) if number >= 7 else 0, 3, first)])

    def test_highest_of_a_family(self):
        self.check_topmost("2:9{4:5{6:8{8:2[1]}}}", [(9, 1, 1), (8, 2, 1), (2, 3, 1)])
        self.check_topmost("4:5{5:8{6:3{7:4{8:2[1]}}}}", [(5, 1, 1), (8, 2, 1), (4, 3, 1)])

    def test_other_groups_of_the_family(self):
        self.check_topmost("1:1{5:2[7],6:3{8:4[9]}},5:5", [(3, 2, 9), (2, 2, 7), (0, 3, 7), (4, 3, 9)])

    def test_wrong_family(self):
        for written in (EMPTY, TOPS):
            self.check_topmost(written, [(-1, family, 1) for family in (0, 4, -1, FAR, -FAR)])

    def test_not_there(self):
        for written in (EMPTY, TOPS, FULL):
            self.check_topmost(written, [(-4, family, x) for family in (1, 2, 3) for x in NO_KEYS + (7, MOST_KEY)])

    def test_first_refusal(self):
        self.check_topmost(TOPS, [(-1, 0, 7), (-1, 4, 0), (-1, -1, MOST_KEY + 1)])


class CloserTest(QuestionCase):
    def check_closer(self, written, rows):
        for answer, x, y, z in rows:
            self.check_draft_of(written, [answer], closer(1, -1, x, y, z))

    def test_both_answers(self):
        self.check_closer("1:1{5:2[1 2],5:3[3]}", [
            (1, 1, 2, 3), (1, 2, 1, 3), (0, 1, 3, 2), (0, 3, 1, 2), (0, 2, 3, 1), (0, 3, 2, 1)])

    def test_other_parts_of_the_tree(self):
        written = "1:1[1]{2:2[2]{3:3[3]{4:4[4]}},2:5[5]},1:6[6]"
        self.check_closer(written, [
            (1, 3, 4, 2), (0, 2, 4, 3), (0, 2, 3, 4), (1, 2, 4, 1), (1, 2, 3, 5), (0, 2, 5, 4), (0, 2, 5, 1),
            (1, 2, 5, 6), (1, 1, 5, 6), (0, 1, 6, 5), (0, 6, 1, 2), (0, 1, 2, 5), (1, 4, 2, 5)])

    def test_samples(self):
        self.check_closer(TOPS, [(1, 1, 9, 2), (0, 1, 9, 3), (1, 1, 3, 2), (1, 2, 4, 5), (0, 2, 1, 4), (0, 1, 2, 5)])
        self.check_closer(DEEP, [(1, 17, 18, 16), (0, 16, 17, 18), (0, 16, 18, 17), (1, 12, 18, 11), (0, 11, 12, 13)])
        self.check_closer("1:1,1:2[3]{2:3,2:4[1 2]{3:6}},1:5", [(1, 1, 2, 3), (0, 1, 3, 2), (0, 3, 2, 1)])
        low, high = full_homed(2, 8), full_homed(2, 7)
        self.check_closer(FULL, [
            (1, low[0], low[1], high[0]), (0, low[0], high[0], low[1]), (0, high[0], high[1], low[0]),
            (1, high[1], low[0], full_homed(2, 1)[0]), (1, full_homed(2, 1)[0], low[0], full_homed(3, 8)[1]),
            (0, low[0], full_homed(3, 8)[1], low[1])])

    def test_edges_of_keys(self):
        self.check_closer("1:1[1 1000000000],1:2[2]", [(1, 1, MOST_KEY, 2), (0, MOST_KEY, 2, 1)])

    def test_wrong_values(self):
        for written in (EMPTY, TOPS):
            for wrong in NO_KEYS:
                self.check_closer(written, [(-1, wrong, 1, 2), (-1, 1, wrong, 2), (-1, 1, 2, wrong)])
            self.check_closer(written, [(-1, 1, 1, 2), (-1, 1, 2, 1), (-1, 2, 1, 1), (-1, 1, 1, 1)])

    def test_not_there(self):
        for written in (EMPTY, HOLLOW):
            self.check_closer(written, [(-4, 1, 2, 3), (-4, 6, 1, 2)])
        self.check_closer(TOPS, [(-4, 7, 1, 2), (-4, 1, 7, 2), (-4, 1, 2, 7), (-4, 1, 9, MOST_KEY)])

    def test_first_refusal(self):
        self.check_closer(TOPS, [(-1, 7, 7, 1), (-1, 7, 1, 0), (-1, 0, 7, 1), (-1, 1, 7, 7), (-1, 7, 1, 7)])


class CountsTest(QuestionCase):
    def check_counts(self, written, expected):
        self.check_draft_of(written, expected, counts(1, -1))

    def test_samples(self):
        self.assertEqual(ask_all([counts(1, -1)]), [[0, 0, 0, 0]])
        self.check_counts(EMPTY, [0, 0, 0, 0])
        self.check_counts(HOLLOW, [6, 1, 3, 1])
        self.check_counts(TOPS, [4, 6, 2, 4])
        self.check_counts(DEEP, [8, 8, 8, 8])
        self.check_counts(FULL, [32, 64, 8, 32])

    def test_depth(self):
        self.check_counts("1:1", [1, 0, 1, 0])
        self.check_counts("8:1", [1, 0, 1, 0])
        self.check_counts("1:1{8:2}", [2, 0, 2, 0])
        self.check_counts("1:1{3:2{5:3},2:4{3:5{4:6}}},1:7{2:8}", [8, 0, 4, 0])
        self.check_counts("1:9{2:8},1:1{2:2{3:3}}", [5, 0, 3, 0])

    def test_sets(self):
        self.check_counts("1:1{2:2{3:3[5]}}", [3, 1, 3, 1])
        self.check_counts("1:1[6]{2:2{3:3[5]}}", [3, 2, 3, 2])
        self.check_counts("1:1{2:2[5],2:3[6],2:4}", [4, 2, 2, 3])
        self.check_counts("1:1[5],1:2[6],1:3", [3, 2, 1, 2])

    def test_full(self):
        self.check_counts("1:1" + in_brackets(1, 64) + "," + side_by_side(2, 31), [32, 64, 1, 1])


if __name__ == "__main__":
    unittest.main()
