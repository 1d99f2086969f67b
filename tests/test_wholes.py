"""The edits that make a whole draft: fetch, apply, agree."""

import unittest

from tests.line import (
    FAR, MOST_DAY, MOST_KEY, LineCase, agree, apply, ask, fetch, in_brackets, load, publish, side_by_side, undo,
)

NO_SCHOOLS = (0, 4, -1, FAR, -FAR)
NO_DAYS = (-2, MOST_DAY + 1, FAR, -FAR)
NO_KEYS = (0, -1, MOST_KEY + 1, FAR, -FAR)


class FetchTest(LineCase):
    def test_draft(self):
        self.check_draft("3:1[2]", load(2, "3:1[2]"), fetch(1, 2, -1))
        self.assertEqual(self.after(fetch(3, 1, -1), load(3, self.text)), -6)

    def test_draft_stays_apart(self):
        calls = [load(2, "3:1"), fetch(1, 2, -1), load(1, "4:1"), load(2, "3:1"), undo(1), load(1, "3:1")]
        self.assertEqual(ask(calls), [0, 0, 0, -6, 0, -6])

    def test_version(self):
        calls = [load(2, "1:1"), publish(2, 5), load(2, "1:2"), publish(2, 7), load(2, "1:3")]
        for day, text in ((5, "1:1"), (6, "1:1"), (7, "1:2"), (8, "1:2"), (MOST_DAY, "1:2"), (-1, "1:3")):
            told = ask(calls + [fetch(1, 2, day), load(1, text)])
            self.assertEqual(told[-2:], [0, -6], day)
        for day in (0, 4):
            self.assertEqual(ask(calls + [fetch(1, 2, day)])[-1], -7)

    def test_version_published_later_for_an_earlier_day(self):
        calls = [load(2, "1:1"), publish(2, 9), load(2, "1:2"), publish(2, 3)]
        self.assertEqual(ask(calls + [fetch(1, 2, 8), load(1, "1:2")])[-2:], [0, -6])
        self.assertEqual(ask(calls + [fetch(1, 2, 9), load(1, "1:1")])[-2:], [0, -6])
        self.assertEqual(ask(calls + [fetch(1, 2, 2)])[-1], -7)

    def test_own_version(self):
        self.assertEqual(self.after(publish(1, 0), load(1, "1:1"), fetch(1, 1, 0), load(1, self.text)), -6)

    def test_edges_of_days(self):
        self.assertEqual(self.after(publish(1, 0), fetch(2, 1, 0), load(2, self.text)), -6)
        self.assertEqual(self.after(publish(1, MOST_DAY), fetch(2, 1, MOST_DAY), load(2, self.text)), -6)
        self.assertEqual(self.after(publish(1, MOST_DAY), fetch(2, 1, MOST_DAY - 1)), -7)

    def test_other_schools_versions(self):
        self.assertEqual(self.after(publish(1, 3), fetch(1, 2, 3)), -7)

    def test_refused(self):
        self.check_refusals([
            (-1, [fetch(school, 2, -1) for school in NO_SCHOOLS]),
            (-1, [fetch(1, other, -1) for other in NO_SCHOOLS]),
            (-1, [fetch(1, 2, day) for day in NO_DAYS]),
            (-7, [fetch(1, other, day) for other in (1, 2, 3) for day in (0, 1, MOST_DAY)]),
            (-6, [fetch(1, 1, -1)]),
        ])

    def test_first_refusal(self):
        self.check_refusals([(-1, [fetch(0, 2, 0), fetch(1, 0, 0), fetch(4, 1, -1)])])

    def test_same_tree(self):
        self.assertEqual(self.after(load(2, self.text), fetch(1, 2, -1)), -6)
        self.assertEqual(self.after(publish(1, 4), fetch(1, 1, 4)), -6)
        self.assertEqual(ask([fetch(1, 2, -1), undo(1)]), [-6, -8])

    def test_empty_tree(self):
        self.check_draft("", fetch(1, 2, -1))
        self.check_draft("", publish(2, 1), fetch(1, 2, 1))


class ApplyTest(LineCase):
    def test_kind_1(self):
        self.check_draft(self.text + ",1:9", apply(1, [[1, 9, 1, 0]]))
        self.check_draft("2:1[10]{4:2[20 21]{6:4[40]},5:3[30]},2:5[50]{3:9}", apply(1, [[1, 9, 3, 5]]))
        self.check_draft("2:1[10]{5:3[30]},2:5[50]{3:2[20 21]{6:4[40]}}", apply(1, [[1, 2, 3, 5]]))

    def test_kind_2(self):
        self.text += ",8:9"
        self.check_draft(self.text[:-4], apply(1, [[2, 9, 0, 0]]))
        self.text = "1:1{2:2{3:3}}"
        self.check_draft("1:1{3:3}", apply(1, [[2, 2, 0, 0], [1, 3, 3, 1]]))

    def test_kind_3(self):
        self.check_draft("2:1[10]{4:2[20 21]{6:4[40]},5:3[30]},2:5[50 60]", apply(1, [[3, 60, 5, 0]]))
        self.check_draft("2:1[10]{4:2[20 21]{6:4},5:3[30]},2:5[50 40]", apply(1, [[3, 40, 5, 0]]))

    def test_kind_4(self):
        self.check_draft("2:1{4:2[20 21]{6:4[40]},5:3[30]},2:5[50]", apply(1, [[4, 10, 0, 0]]))

    def test_all_at_once(self):
        rows = [[3, 60, 9, 0], [1, 9, 7, 8], [2, 5, 0, 0], [1, 8, 1, 0], [4, 50, 0, 0], [1, 1, 2, 8]]
        self.check_draft("1:8{2:1[10]{4:2[20 21]{6:4[40]},5:3[30]},7:9[60]}", apply(1, rows))
        self.check_draft("1:8{2:1[10]{4:2[20 21]{6:4[40]},5:3[30]},7:9[60]}", apply(1, rows[::-1]))

    def test_parent_and_child_change_places(self):
        self.check_draft("2:1[10]{5:3[30],4:4[40]{6:2[20 21]}},2:5[50]", apply(1, [[1, 2, 6, 4], [1, 4, 4, 1]]))

    def test_same_number_of_group_and_specimen(self):
        self.check_draft(self.text + ",1:9[9]", apply(1, [[1, 9, 1, 0], [3, 9, 9, 0]]))
        self.text = "1:1[2],1:2"
        self.check_draft("1:1", apply(1, [[2, 2, 0, 0], [4, 2, 0, 0]]))

    def test_rows_that_change_nothing_beside_one_that_does(self):
        self.check_draft("1:1[10]{4:2[20 21]{6:4[40]},5:3[30]},2:5[50]", apply(1, [[1, 2, 4, 1], [1, 1, 1, 0]]))

    def test_bounds(self):
        self.text = "8:8"
        self.check_draft("8:8,1:1{8:1000000000[1 1000000000]}", apply(
            1, [[1, 1, 1, 0], [1, MOST_KEY, 8, 1], [3, 1, MOST_KEY, 0], [3, MOST_KEY, MOST_KEY, 0]]))
        self.text = "1:1000000000[1 1000000000]"
        self.check_draft("1:1000000000", apply(1, [[4, 1, 0, 0], [4, MOST_KEY, 0, 0]]))
        self.check_draft("", apply(1, [[4, 1, 0, 0], [4, MOST_KEY, 0, 0], [2, MOST_KEY, 0, 0]]))

    def test_not_in_form(self):
        good = [1, 9, 1, 0]
        self.check_refusals([
            (-1, [apply(school, [good]) for school in NO_SCHOOLS]),
            (-1, [apply(1, [good[:count]]) for count in (1, 2, 3)]),
            (-1, [apply(1, [good, [4, 10, 0][:count]]) for count in (1, 2, 3)]),
            (-1, [apply(1, [[kind, 9, 0, 0]]) for kind in (0, 5, -1, FAR, -FAR)]),
            (-1, [apply(1, [[kind, 10, 1, 0]]) for kind in (0, 2, 4, 5)]),
            (-1, [apply(1, [[1, key, 1, 0]]) for key in NO_KEYS]),
            (-1, [apply(1, [[1, 9, number, 0]]) for number in (0, -1, 9, FAR)]),
            (-1, [apply(1, [[1, 9, 1, parent]]) for parent in NO_KEYS if parent != 0]),
            (-1, [apply(1, [[2, key, 0, 0]]) for key in NO_KEYS]),
            (-1, [apply(1, [[2, 4, 1, 0]]), apply(1, [[2, 4, 0, 1]]), apply(1, [[2, 4, 0, -1]])]),
            (-1, [apply(1, [[3, x, 1, 0]]) for x in NO_KEYS]),
            (-1, [apply(1, [[3, 10, key, 0]]) for key in NO_KEYS]),
            (-1, [apply(1, [[3, 10, 2, 1]]), apply(1, [[3, 10, 2, -1]])]),
            (-1, [apply(1, [[4, x, 0, 0]]) for x in NO_KEYS]),
            (-1, [apply(1, [[4, 10, 1, 0]]), apply(1, [[4, 10, 0, 1]])]),
            (-1, [apply(1, [good, [4, 10, 0, 0], [0, 0, 0, 0]])]),
        ])

    def test_twice(self):
        self.check_refusals([
            (-1, [apply(1, [[1, 9, 1, 0], [1, 9, 1, 0]]), apply(1, [[1, 9, 1, 0], [4, 10, 0, 0], [1, 9, 2, 0]])]),
            (-1, [apply(1, [[2, 4, 0, 0], [2, 4, 0, 0]]), apply(1, [[1, 3, 6, 0], [2, 3, 0, 0]])]),
            (-1, [apply(1, [[3, 10, 2, 0], [3, 10, 3, 0]]), apply(1, [[4, 10, 0, 0], [4, 10, 0, 0]])]),
            (-1, [apply(1, [[4, 10, 0, 0], [3, 10, 2, 0]]), apply(1, [[3, 10, 2, 0], [4, 10, 0, 0]])]),
        ])

    def test_same_parent_and_home_in_many(self):
        self.check_draft("2:1[10 11 12]{4:2[20 21]{6:4[40]},5:3[30],3:8,3:9},2:5[50]", apply(
            1, [[1, 8, 3, 1], [1, 9, 3, 1], [3, 11, 1, 0], [3, 12, 1, 0]]))

    def test_not_there(self):
        self.check_refusals([
            (-4, [apply(1, [[2, 6, 0, 0]]), apply(1, [[2, MOST_KEY, 0, 0]]), apply(1, [[4, 1, 0, 0]])]),
            (-4, [apply(1, [[1, 9, 8, 6]]), apply(1, [[1, 2, 8, 6]]), apply(1, [[3, 10, 6, 0]])]),
            (-4, [apply(1, [[3, 60, 6, 0]]), apply(1, [[2, 4, 0, 0]]), apply(1, [[2, 2, 0, 0]])]),
            (-4, [apply(1, [[2, 5, 0, 0]]), apply(1, [[2, 1, 0, 0], [3, 10, 2, 0]])]),
            (-4, [apply(1, [[2, 5, 0, 0], [3, 50, 5, 0]]), apply(1, [[1, 3, 8, 5], [2, 5, 0, 0], [4, 50, 0, 0]])]),
        ])

    def test_wrong_ranks(self):
        self.check_refusals([
            (-5, [apply(1, [[1, 9, 2, 1]]), apply(1, [[1, 9, 1, 1]]), apply(1, [[1, 9, 8, 9]])]),
            (-5, [apply(1, [[1, 1, 4, 0]]), apply(1, [[1, 1, 5, 0]]), apply(1, [[1, 2, 6, 1]])]),
            (-5, [apply(1, [[1, 1, 5, 4]]), apply(1, [[1, 8, 3, 9], [1, 9, 4, 8]])]),
        ])

    def test_full(self):
        self.text = side_by_side(1, 32)
        self.check_refusals([(-9, [apply(1, [[1, 33, 1, 0]]), apply(1, [[1, 40, 1, 0], [1, 41, 1, 0], [2, 1, 0, 0]])])])
        self.check_draft(side_by_side(2, 32), apply(1, [[1, 33, 1, 0], [2, 1, 0, 0]]))
        self.text = "1:1" + in_brackets(1, 64)
        self.check_refusals([(-9, [apply(1, [[3, 65, 1, 0]])])])
        self.check_draft("1:1" + in_brackets(2, 64), apply(1, [[3, 65, 1, 0], [4, 1, 0, 0]]))
        self.assertEqual(ask([apply(1, [[1, key, 1, 0] for key in range(1, 33)])]), [0])
        self.assertEqual(ask([apply(1, [[1, key, 1, 0] for key in range(1, 34)])]), [-9])
        self.assertEqual(ask([apply(1, [[1, key, 1, 0] for key in range(1, 526)])]), [-9])
        specimens = [[3, x, 1, 0] for x in range(1, 66)]
        self.assertEqual(ask([apply(1, [[1, 1, 1, 0]] + specimens[:64])]), [0])
        self.assertEqual(ask([apply(1, [[1, 1, 1, 0]] + specimens)]), [-9])

    def test_draft_comes_out(self):
        self.check_refusals([
            (-6, [apply(1, []), apply(1, [[1, 2, 4, 1]]), apply(1, [[3, 10, 1, 0]])]),
            (-6, [apply(1, [[1, 1, 2, 0], [1, 5, 2, 0], [3, 40, 4, 0]])]),
        ])
        self.assertEqual(ask([apply(1, []), undo(1)]), [-6, -8])

    def test_first_refusal(self):
        self.check_refusals([
            (-1, [apply(1, [[2, 6, 0, 0], [2, 6, 0, 0]]), apply(1, [[1, 9, 2, 1], [0, 0, 0, 0]]), apply(0, [])]),
            (-4, [apply(1, [[1, 9, 2, 1], [2, 6, 0, 0]]), apply(1, [[1, 9, 2, 1], [3, 60, 6, 0]])]),
            (-4, [apply(1, [[3, x, 6, 0] for x in range(100, 200)]), apply(1, [[1, 9, 2, 1], [1, 8, 2, 6]])]),
            (-5, [apply(1, [[1, 9, 2, 1]] + [[3, x, 1, 0] for x in range(100, 200)])]),
        ])


class AgreeTest(LineCase):
    def agreed(self, one, other, text):
        """Checks what school 3's draft is after it is made of the drafts of schools 1 and 2."""
        told = ask([load(3, "8:99"), load(1, one), load(2, other), agree(3, 1, -1, 2, -1), load(3, text)])
        self.assertEqual(told[-2:], [0, -6], (one, other))

    def test_example(self):
        self.agreed("5:1{7:2[8 9],7:3[10]}", "5:1{7:2[8],7:3[9 10]}", "5:1[8 9 10]")

    def test_same_trees(self):
        self.agreed("5:1{7:2[8 9],7:3[10]}", "5:1{7:2[8 9],7:3[10]}", "5:1{7:2[8 9],7:3[10]}")

    def test_other_keys_and_ranks(self):
        self.agreed("5:1{7:2[8 9],7:3[10]}", "1:7{2:8[8 9]{3:9[10]}}", "5:1[8 9]{7:3[10]}")
        self.agreed("1:7{2:8[8 9]{3:9[10]}}", "5:1{7:2[8 9],7:3[10]}", "1:7{2:8[8 9]{3:9[10]}}")

    def test_nearest_kept_parent(self):
        one = "1:1[5]{2:2[6]{3:3[7]{4:4[8]}}}"
        self.agreed(one, "1:1[5 6 7 8],1:2", "1:1[5 6 7 8]")
        self.agreed(one, "1:1[5 6 7]{2:2[8]}", "1:1[5 6 7]{4:4[8]}")
        self.agreed(one, "1:1[5 6]{2:2[7 8]}", "1:1[5 6]{3:3[7 8]}")
        self.agreed(one, "3:3[7 8]", "3:3[7 8]")
        self.agreed(one, "3:3[7]{4:4[8]},2:2[1]", "3:3[7]{4:4[8]}")
        self.agreed(one, "8:1[8]", "4:4[8]")

    def test_kept_next_to_others(self):
        one = "1:1{2:2[1],2:3[2 3]{4:4[4],4:5[5]}},1:6[6]"
        self.agreed(one, "1:1[1],1:2[6],1:3[4]", "2:2[1],4:4[4],1:6[6]")

    def test_groups_that_hold_nothing(self):
        self.agreed("1:1,1:2[5]", "1:1,1:2[5]", "1:2[5]")
        self.agreed("1:1{2:2}", "1:1{2:2}", "")
        self.agreed("1:1{2:2[5]},1:3", "1:9[5],1:8", "1:1{2:2[5]}")

    def test_groups_that_hold_the_same(self):
        self.agreed("1:1{2:2{3:3[5]}}", "8:8[5]", "1:1{2:2{3:3[5]}}")
        self.agreed("8:8[5]", "1:1{2:2{3:3[5]}}", "8:8[5]")

    def test_nothing_agreed(self):
        self.agreed("1:1[5]", "1:1[6]", "")
        self.agreed("1:1[5]", "1:1[5 6]", "")
        self.agreed("1:1[5 6]", "1:1[5]", "")
        self.agreed("1:1[5]", "", "")
        self.agreed("", "1:1[5]", "")

    def test_order_of_the_trees(self):
        one, other = "1:1[5]", "2:2[5]"
        for first, text in ((1, one), (2, other)):
            told = ask([load(1, one), load(2, other), agree(3, first, -1, 3 - first, -1), load(3, text)])
            self.assertEqual(told, [0, 0, 0, -6])

    def test_versions(self):
        calls = [load(1, "1:1[5],1:2[6]"), publish(1, 3), load(1, ""), load(2, "4:4[5]"), publish(2, 8), load(2, "")]
        self.assertEqual(ask(calls + [agree(3, 1, 4, 2, 9), load(3, "1:1[5]")])[-2:], [0, -6])
        self.assertEqual(ask(calls + [agree(3, 2, 8, 1, 3), load(3, "4:4[5]")])[-2:], [0, -6])
        self.assertEqual(ask(calls + [agree(3, 1, 2, 2, 9)])[-1], -7)
        self.assertEqual(ask(calls + [agree(3, 1, 3, 2, 7)])[-1], -7)
        self.assertEqual(ask(calls + [agree(3, 1, 3, 2, -1)])[-1], -6)

    def test_own_draft(self):
        self.check_draft("2:1[10 20 21 30 40]", load(2, "1:1[10 20 21 30 40]"), agree(1, 1, -1, 2, -1))
        self.check_draft("2:1[10]{4:2[20 21]{6:4[40]},5:3[30]}", load(2, "1:1[10]{2:2[20 21]{3:3[40]},2:4[30]}"),
                         agree(1, 1, -1, 2, -1))

    def test_same_draft(self):
        self.check_refusals([(-6, [agree(1, 1, -1, 1, -1)])])
        self.assertEqual(ask([agree(1, 2, -1, 3, -1), undo(1)]), [-6, -8])

    def test_undone(self):
        self.assertEqual(self.after(agree(1, 1, -1, 2, -1), undo(1), load(1, self.text)), -6)

    def test_refused(self):
        self.check_refusals([
            (-1, [agree(school, 1, -1, 2, -1) for school in NO_SCHOOLS]),
            (-1, [agree(1, a, -1, 2, -1) for a in NO_SCHOOLS]),
            (-1, [agree(1, 1, day, 2, -1) for day in NO_DAYS]),
            (-1, [agree(1, 1, -1, b, -1) for b in NO_SCHOOLS]),
            (-1, [agree(1, 1, -1, 2, day) for day in NO_DAYS]),
            (-7, [agree(1, 1, 0, 2, -1), agree(1, 1, -1, 2, 0), agree(1, 3, MOST_DAY, 2, -1)]),
        ])

    def test_first_refusal(self):
        self.check_refusals([
            (-1, [agree(0, 1, 0, 2, -1), agree(1, 0, -1, 2, 0), agree(1, 1, -2, 2, 0), agree(1, 0, 0, 2, 0)]),
            (-7, [agree(1, 1, 0, 0, -1), agree(1, 1, 0, 2, -2), agree(1, 1, 0, 4, MOST_DAY + 1)]),
        ])


if __name__ == "__main__":
    unittest.main()
