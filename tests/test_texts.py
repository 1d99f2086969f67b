"""Texts in form: load and check."""

import unittest

from tests.line import (
    FAR, LineCase, QuestionCase, ask, ask_all, check, counts, fetch, in_brackets, load, put, side_by_side, take, text,
)
from tests.samples import DEEP, EMPTY, FULL, HOLLOW, TOPS

EXAMPLE = "5:7[1 2]{7:3[9],7:4}"


def nested(ranks):
    """A text of groups, each in the braces of the one before it, with keys from 1 on."""
    text = "{".join("%d:%d" % (number, key + 1) for key, number in enumerate(ranks))
    return text + "}" * (len(ranks) - 1)


def long_text(length):
    """A text in form of so many bytes, with each key once, but more groups than a tree has."""
    # A group with a comma takes 6 bytes, and each of the first few one more, so that the length is met.
    count = (length + 1) // 6
    spare = (length + 1) % 6
    keys = list(range(1000, 1000 + spare)) + list(range(100, 100 + count - spare))
    text = ",".join("1:%d" % key for key in keys)
    assert len(text) == length
    return text


class LoadTest(LineCase):
    def answer(self, text):
        """What load answers on an empty draft."""
        return ask([load(1, text)])[0]

    def check_each(self, refusal, texts):
        for text in texts:
            with self.subTest(text=text):
                self.assertEqual(self.answer(text), refusal)
                self.check_refused(refusal, load(1, text))
                self.assertEqual(ask_all([check(text)]), [[refusal]])

    def test_examples(self):
        self.assertEqual(self.answer(EXAMPLE), 0)
        self.assertEqual(ask([load(1, EXAMPLE), load(1, "5:7[2 1]{7:4,7:3[9]}")]), [0, -6])
        self.check_each(-5, ["5:7{5:3}"])
        self.check_each(-1, ["5:7{}", "5:07", "5:7[1"])
        self.check_each(-2, ["5:7,5:7"])
        self.check_each(-3, ["5:7[1],5:8[1]"])

    def test_tree_of_example(self):
        calls = [put(1, 1, 7), put(1, 2, 7), put(1, 9, 3), take(1, 3), put(1, 1, 4), put(1, 1, 5)]
        self.assertEqual(ask([load(1, EXAMPLE)] + calls), [0, -6, -6, -6, -4, 0, -4])

    def test_draft_is_replaced(self):
        self.check_draft("1:1", load(1, "1:1"))
        self.check_draft("", load(1, ""))

    def test_any_order(self):
        self.assertEqual(self.after(load(1, "2:5[50],2:1[10]{5:3[30],4:2[21 20]{6:4[40]}}")), -6)

    def test_other_trees(self):
        for text in ("5:7[1 2]{7:3,7:4[9]}", "5:7[1 2]{7:3[9]},7:4", "5:7[1 2]{7:3[9],8:4}", "5:7[1 2]{7:3[9]}",
                     "5:7[1]{7:3[9],7:4}", "5:7[1 2]{7:3[9 10],7:4}", "5:7[1 2]{7:3[9],7:4},5:8"):
            self.assertEqual(ask([load(1, EXAMPLE), load(1, text), load(1, text)]), [0, 0, -6])

    def test_empty_text(self):
        self.assertEqual(ask([load(1, "")]), [-6])
        self.assertEqual(ask([load(1, "1:1"), load(1, ""), load(2, "")]), [0, 0, -6])

    def test_same_key_of_group_and_specimen(self):
        self.assertEqual(self.answer("1:1[1]"), 0)

    def test_bounds_of_numbers(self):
        for text in ("1:1", "8:1", "1:1000000000", "1:999999999", "1:1[1]", "1:1[1000000000]", "1:10[10 100]"):
            self.assertEqual(ask([load(1, text), load(1, text)]), [0, -6])
        self.check_each(-1, [
            "0:1", "9:1", "10:1", "11:1", "1:0", "1:1000000001", "1:9999999999", "1:" + "1" * 1000,
            "111", "125", "125:1", "1:1[0]", "1:1[1000000001]", "1:1[" + "9" * 1000 + "]", "18:1"])

    def test_every_rank(self):
        self.assertEqual(self.answer("1:1,2:2,3:3,4:4,5:5,6:6,7:7,8:8"), 0)

    def test_zeros_ahead(self):
        self.check_each(-1, ["01:1", "1:01", "1:00", "1:1[01]", "1:1[1 02]", "00:1", "1:0000000001"])

    def test_signs_elsewhere(self):
        self.check_each(-1, [
            " ", ",", "1", "1:", ":1", ":", "1:1,", ",1:1", "1:1,,1:2", "1:1 ", " 1:1", "1 :1", "1: 1", "1:1, 1:2",
            "1:1\n", "1:1;1:2", "1:1 1:2", "1::1", "1:1:1", "+1:1", "1:-1", "1:1x", "x", "1:a", "1:1/", "1:1.0",
            "1,1", "1:1]", "1:1}", "1:1[1]]", "1:1[1]2:2", "1:12:2", "1:1\0", "[1]", "{1:1}", "{}", "[]", "(1:1)"])

    def test_bytes_next_to_the_digits(self):
        self.check_each(-1, ["1:1" + sign for sign in "/:"] + ["/:1", "::1", "1:/", "1:1[/]", "1:1[:]"])
        self.check_each(-1, [[49, 58, 49, 128], [49, 58, 49, 255], [49, 58, 49, 0], [255], [0], [49, 58, 178]])

    def test_brackets(self):
        self.assertEqual(self.answer("1:1[3 1 2]"), 0)
        self.check_each(-1, [
            "1:1[]", "1:1[", "1:1[1", "1:1[1 ", "1:1[ 1]", "1:1[1 ]", "1:1[1  2]", "1:1[1,2]", "1:1[1][2]", "1:1[[1]]",
            "1:1[1:2]", "1:1[1}", "1:1[1 2", "1[1]", "1:[1]", "1:1[{1}]", "1:1[1]1", "1:1[ ]"])

    def test_braces(self):
        self.assertEqual(self.answer("1:1{2:2},1:3{2:4{3:5},2:6}"), 0)
        self.check_each(-1, [
            "1:1{}", "1:1{", "1:1{2:2", "1:1{2:2,}", "1:1{,2:2}", "1:1{2:2}}", "1:1{2:2}{2:3}", "1:1{2:2}[1]",
            "1:1{{2:2}}", "1:1{2:2]", "1:1{2:2{3:3}", "1:1{2:2 2:3}", "1:1{2:2}2:3", "1:1{2:2},", "1:1{1}", "1{2:2}",
            "1:1{2:2{}}", "1:1{2:2},}", "1:1[1]{}", "1:1{ }",
            "1:1},1:2", "1:1{2:2}},1:3", "1:1}}", "1:1},{1:2"])

    def test_deep(self):
        self.assertEqual(self.answer(nested(range(1, 9))), 0)
        self.assertEqual(ask([load(1, nested(range(1, 9))), load(1, nested(range(1, 9)))]), [0, -6])
        self.check_each(-5, [nested([1, 2, 3, 4, 5, 6, 7, 7]), nested([1] * 8)])
        self.check_each(-1, [nested([1, 2, 3, 4, 5, 6, 7, 8, 8]), nested([1] * 9), nested([1] * 250)])
        self.check_each(-1, ["1:1{" * 500, "{" * 2000, "1:1" + "{" * 1997, "1:1{" * 8 + "1:1" + "}" * 8])

    def test_seven_deep_twice(self):
        one = nested(range(1, 9))
        other = one
        for key in range(1, 9):
            other = other.replace(":%d" % key, ":1%d" % key)
        self.assertEqual(self.answer(one + "," + other), 0)

    def test_length(self):
        self.check_each(-9, [long_text(1999), long_text(2000)])
        self.check_each(-1, [long_text(2001), long_text(2002), long_text(2100)])
        self.check_each(-1, ["1:1" + in_brackets(1, 600)[:1997], "1" * 2000, " " * 2100])

    def test_keys_twice(self):
        self.check_each(-2, ["1:1,1:1", "1:1,2:1", "1:1{2:1}", "1:1{2:2},1:2", "1:1{2:2,2:2}", "1:1,1:2,1:3,1:1"])
        self.check_each(-3, ["1:1[1 1]", "1:1[1 2 1]", "1:1[1]{2:2[1]}", "1:1[1],1:2[1]", "1:1{2:2[3],2:3[3]}"])

    def test_wrong_ranks(self):
        self.check_each(-5, ["2:1{1:2}", "2:1{2:2}", "1:1{2:2{2:3}}", "1:1{3:2,3:3{2:4}}", "8:1{8:2}", "1:1{1:2{1:3}}"])
        self.assertEqual(self.answer("1:1{8:2}"), 0)

    def test_full(self):
        self.assertEqual(self.answer(side_by_side(1, 32)), 0)
        self.assertEqual(self.answer("1:1" + in_brackets(1, 64)), 0)
        self.assertEqual(self.answer("1:1" + in_brackets(1, 64) + "," + side_by_side(2, 31)), 0)
        self.check_each(-9, [side_by_side(1, 33), "1:1" + in_brackets(1, 65), "1:1{" + side_by_side(2, 32).replace(
            "1:", "2:") + "}"])

    def test_first_refusal(self):
        self.check_each(-1, ["1:1,1:1,", "1:1[1 1", "2:1{1:2", side_by_side(1, 33) + ",1:0"])
        self.check_each(-2, ["1:1[1],1:1[1]", "1:1[5 5],1:2,1:2", "2:1{1:1}", side_by_side(1, 33) + ",1:1"])
        self.check_each(-3, ["2:1[1]{1:2[1]}", "1:1" + in_brackets(1, 65) + ",1:2[1]", "2:1[1 1]{1:2}"])
        self.check_each(-5, ["2:100{1:101}," + side_by_side(1, 32), "2:1{1:2}" + ",1:3" + in_brackets(1, 65)])

    def test_schools(self):
        self.check_refusals([(-1, [load(school, "1:1") for school in (0, 4, -1, FAR, -FAR)])])
        self.check_refusals([(-1, [load(0, self.text)])])
        self.assertEqual(ask([load(3, "1:1"), fetch(1, 3, -1), load(1, "1:1")]), [0, 0, -6])


class CheckTest(QuestionCase):
    """The texts that load refuses are asked of check there, each beside load."""

    def check_counted(self, written, groups, specimens):
        self.check_answer([groups, specimens], check(written))

    def test_samples(self):
        self.check_counted(EMPTY, 0, 0)
        self.check_counted(HOLLOW, 6, 1)
        self.check_counted(TOPS, 4, 6)
        self.check_counted(DEEP, 8, 8)
        self.check_counted(FULL, 32, 64)
        self.check_counted(EXAMPLE, 3, 3)
        self.check_counted("5:7[2 1]{7:4,7:3[9]}", 3, 3)

    def test_most(self):
        self.check_counted(side_by_side(1, 32), 32, 0)
        self.check_counted("1:1" + in_brackets(1, 64), 1, 64)
        self.check_counted("8:1000000000[1000000000 1]", 1, 2)

    def test_refused(self):
        rows = [
            (-1, ["5:7{}", "5:07", "5:7[1", "1:1[]", "9:1", "0:1", "1:1000000001", " ", long_text(2001), [0], [255]]),
            (-1, [nested([1, 2, 3, 4, 5, 6, 7, 8, 8]), "{" * 2100, "1:1{" * 525, [49] * 2100]),
            (-2, ["5:7,5:7", "1:1{2:1}"]),
            (-3, ["5:7[1],5:8[1]", "1:1[1 1]"]),
            (-5, ["5:7{5:3}", "2:1{1:2}"]),
            (-9, [side_by_side(1, 33), "1:1" + in_brackets(1, 65), long_text(2000)]),
        ]
        for refusal, texts in rows:
            for written in texts:
                self.check_answer([refusal], check(written), load(1, EXAMPLE), load(2, TOPS))

    def test_first_refusal(self):
        self.check_answer([-1], check("1:1[2 2],1:1,"))
        self.check_answer([-2], check("2:1[2 2]{1:1}," + side_by_side(1, 33)))
        self.check_answer([-3], check("2:1[2 2]{1:40}," + side_by_side(2, 33)))
        self.check_answer([-5], check("2:1[2]{1:40}," + side_by_side(2, 33)))

    def test_own_draft_is_not_refused(self):
        for written in (EXAMPLE, HOLLOW, TOPS, DEEP, FULL):
            calls = [load(school, written) for school in (1, 2, 3)]
            told = ask_all(calls + [text(1, -1), counts(1, -1)])
            self.assertEqual("".join(chr(byte) for byte in told[3][1:]), written)
            self.check_answer(told[4][:2], check(told[3][1:]), *calls)
        self.assertEqual(ask_all([check("")]), [[0, 0]])


if __name__ == "__main__":
    unittest.main()
