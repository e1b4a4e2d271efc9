"""The interface: one list of calls in, one list of answers out; and the document's example."""

import unittest

from tests.helper import (EMPTIES, SUMS, SUM_TEXT, SUM_TREE, TEXT, TREE, ask, chain, hold, kids, load, of, piece, under,
                          up)
from treecuts.desk import answers

EVERY_CALL = (load(SUMS) + hold(SUM_TEXT, SUM_TREE) + TREE + TEXT + kids(0) + up(4) + piece(2) + of(1) + under(0, 1)
              + kids(5) + of(2) + load([0]) + hold([256], []) + load(EMPTIES) + TREE + hold([], chain(3)) + TREE)


class Example(unittest.TestCase):
    def test_the_document_s_example(self):
        row = [1, 2, 0, 3, 0, 0, 1, 43, 43, 0, 0, 0, 1, 1, 97, 99]
        text = [ord(sign) for sign in "a+b+c"]
        tree = [0, 0, 5, 1, 0, 1, 0, 2, 5, 1, 2, 3, 1, 4, 5]
        line = [0, 16] + row + [1, 5] + text + [15] + tree + [4, 0, 5, 4, 8, 0, 1]
        self.assertEqual(answers(line), [1, 0, 1, 0, 3, 0, 1, 2, 3, 0, 1, 2, 4, 0, 1, 3, 4])


class Line(unittest.TestCase):
    def test_each_call_by_its_number(self):
        self.assertEqual(answers(EVERY_CALL), [
            1, 0,
            1, 0,
            17, 0, 5, 0, 0, 5, 1, 0, 1, 0, 2, 5, 1, 2, 3, 1, 4, 5,
            6, 0, 97, 43, 98, 43, 99,
            3, 0, 1, 2,
            3, 0, 1, 2,
            6, 0, 2, 5, 98, 43, 99,
            4, 0, 1, 3, 4,
            4, 0, 1, 3, 4,
            1, -7,
            1, -4,
            1, -2,
            1, -1,
            1, 0,
            1, -6,
            1, 0,
            11, 0, 3, 0, 0, 0, 0, 0, 0, 2, 0, 0,
        ])

    def test_one_call(self):
        self.assertEqual(answers([2]), [1, -6])
        self.assertEqual(answers([0, 0]), [1, -2])
        self.assertEqual(answers([1, 0, 0]), [1, -9])

    def test_100_calls(self):
        told = ask(load(SUMS), hold(SUM_TEXT, SUM_TREE), *[kids(2)] * 98)
        self.assertEqual(told, [[0], [0]] + [[0, 3, 4]] * 98)

    def test_refused_call_is_read_to_its_end(self):
        refused = [load([-1] * 2000), load([3] * 2000), hold([-1] * 2000, [2] * 2000), hold([97] * 25, [4, 0, 4]),
                   hold([], [0] * 2000), kids(4), up(4), piece(4), of(4), under(4, 4)]
        told = ask(*refused, load(EMPTIES))
        self.assertEqual(told, [[-1], [-2], [-1], [-3], [-9], [-6], [-6], [-6], [-4], [-4], [0]])

    def test_begins_with_no_rules_and_no_tree(self):
        self.assertEqual(ask(of(0), TREE, hold([], [0, 0, 0])), [[-4], [-6], [-9]])

    def test_what_is_handed_in_stays(self):
        line = list(EVERY_CALL)
        answers(line)
        self.assertEqual(line, EVERY_CALL)

    def test_what_is_given_back_is_a_list_of_its_own(self):
        line = load(SUMS) + hold(SUM_TEXT, SUM_TREE) + TEXT
        told = answers(line)
        self.assertIs(type(told), list)
        told.clear()
        self.assertEqual(answers(line), [1, 0, 1, 0, 6, 0] + SUM_TEXT)

    def test_whole_numbers_are_given_back(self):
        self.assertEqual({type(number) for number in answers(EVERY_CALL)}, {int})

    def test_second_time_is_as_the_first(self):
        first = answers(EVERY_CALL)
        self.assertEqual(answers(EVERY_CALL), first)

    def test_nothing_is_kept_for_another_list(self):
        answers(load(SUMS) + hold(SUM_TEXT, SUM_TREE))
        self.assertEqual(ask(TREE, of(0), hold(SUM_TEXT, SUM_TREE)), [[-6], [-4], [-9]])


if __name__ == "__main__":
    unittest.main()
