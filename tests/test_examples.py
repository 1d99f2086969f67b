"""The document's examples, sentence by sentence."""

import unittest

from tests.line import agree, ask_all, check, clashes, diff, distance, holds, in_bytes, level, load, path, text

EXAMPLE = "5:7[1 2]{7:3[9],7:4}"


class ExamplesTest(unittest.TestCase):
    def test_tree(self):
        told = ask_all([
            load(1, EXAMPLE), text(1, -1), level(1, -1, 5), level(1, -1, 7), path(1, -1, 1), path(1, -1, 2),
            path(1, -1, 9), holds(1, -1, 4)])
        self.assertEqual(told, [
            [0], [20] + in_bytes(EXAMPLE), [1, 7, 3, 1, 2, 9], [2, 3, 1, 9, 4, 0], [1, 7, 5], [1, 7, 5],
            [2, 7, 5, 3, 7], [0]])

    def test_written_otherwise(self):
        other = "5:7[2 1]{7:4,7:3[9]}"
        self.assertEqual(ask_all([load(1, EXAMPLE), load(1, other)]), [[0], [-6]])
        told = ask_all([load(1, other), text(1, -1), load(2, EXAMPLE), diff(1, -1, 2, -1)])
        self.assertEqual(told, [[0], [20] + in_bytes(EXAMPLE), [0], [0]])

    def test_refused(self):
        rows = (("5:7{5:3}", -5), ("5:7{}", -1), ("5:07", -1), ("5:7,5:7", -2), ("5:7[1],5:8[1]", -3), ("5:7[1", -1))
        for written, refusal in rows:
            self.assertEqual(ask_all([load(1, written), check(written)]), [[refusal], [refusal]], written)

    def test_two_trees(self):
        calls = [load(1, "5:1{7:2[8 9],7:3[10]}"), load(2, "5:1{7:2[8],7:3[9 10]}")]
        told = ask_all(calls + [
            clashes(1, -1, 2, -1), holds(1, -1, 2), holds(2, -1, 3), holds(2, -1, 2), diff(1, -1, 2, -1),
            distance(1, -1, 2, -1), agree(3, 1, -1, 2, -1), text(3, -1)])
        self.assertEqual(told[2:], [
            [1, 2, 3], [2, 8, 9], [2, 9, 10], [1, 8], [1, 3, 9, 3, 0], [2, 2], [0],
            [11] + in_bytes("5:1[8 9 10]")])


if __name__ == "__main__":
    unittest.main()
