"""The interface: one list of calls in, one list of answers out; and the document's example."""

import unittest

from tests.helper import (EMPTIES, SUM, SUMS, SUM_TEXT, SUM_TREE, TALL, TEXT, TREE, UNDO, ask, at, behind, chain,
                          compare, cut, hold, kids, load, measure, of, path, piece, put, swap, under, up)
from treecuts.desk import answers

EVERY_CALL = (load(SUMS) + hold(SUM_TEXT, SUM_TREE) + TREE + TEXT + kids(0) + up(4) + piece(2) + of(1) + under(0, 1)
              + kids(5) + of(2) + load([0]) + hold([256], []) + cut(2)
              + put(1, [98, 43, 97], [0, 0, 3, 1, 0, 1, 1, 2, 3]) + TEXT + swap(2, 6) + TEXT + compare(SUM_TREE)
              + compare([0, 0, 7, 0, 0, 3, 1, 0, 1, 1, 2, 3, 0, 4, 7, 1, 4, 5, 1, 6, 7])
              + path(6) + at([0, 1]) + at([2]) + measure(1) + UNDO + TEXT + UNDO + TREE + UNDO + put(5, [], [])
              + swap(0, 1) + at([-1]) + load(EMPTIES) + TREE + hold([], chain(3)) + TREE)


class Example(unittest.TestCase):
    def test_the_document_s_example(self):
        row = [1, 2, 0, 3, 0, 0, 1, 43, 43, 0, 0, 0, 1, 1, 97, 99]
        text = [ord(sign) for sign in "a+b+c"]
        tree = [0, 0, 5, 1, 0, 1, 0, 2, 5, 1, 2, 3, 1, 4, 5]
        line = [0, 16] + row + [1, 5] + text + [15] + tree
        line += [4, 0] + [5, 4] + [13, 4] + [9, 2] + [8, 0, 1]
        line += [11, 1, 2] + [3] + [2] + [12, 15] + tree
        self.assertEqual(answers(line), [
            1, 0,
            1, 0,
            3, 0, 1, 2,
            3, 0, 1, 2,
            3, 0, 1, 1,
            15, 0, 3, 98, 43, 99, 3, 0, 0, 3, 1, 0, 1, 1, 2, 3,
            4, 0, 1, 3, 4,
            1, 0,
            6, 0, 98, 43, 99, 43, 97,
            17, 0, 5, 0, 0, 5, 0, 0, 3, 1, 0, 1, 1, 2, 3, 1, 4, 5,
            3, 0, 1, 1,
        ])


class Line(unittest.TestCase):
    def test_each_call_by_its_number(self):
        self.assertEqual(answers(EVERY_CALL), [
            1, 0,
            1, 0,
            17, 0, 5, 0, 0, 5, 1, 0, 1, 0, 2, 5, 1, 2, 3, 1, 4, 5,
            6, 0, 97, 43, 98, 43, 99,
            3, 0, 1, 2,
            3, 0, 1, 2,
            6, 0, 2, 5, 98, 43, 99,
            4, 0, 1, 3, 4,
            4, 0, 1, 3, 4,
            1, -7,
            1, -4,
            1, -2,
            1, -1,
            15, 0, 3, 98, 43, 99, 3, 0, 0, 3, 1, 0, 1, 1, 2, 3,
            1, 0,
            8, 0, 98, 43, 97, 43, 98, 43, 99,
            1, 0,
            8, 0, 99, 43, 97, 43, 98, 43, 98,
            1, -9,
            2, 0, 0,
            3, 0, 1, 1,
            3, 0, 1, 3,
            2, 0, 0,
            3, 0, 3, 2,
            1, 0,
            8, 0, 98, 43, 97, 43, 98, 43, 99,
            1, 0,
            17, 0, 5, 0, 0, 5, 1, 0, 1, 0, 2, 5, 1, 2, 3, 1, 4, 5,
            1, -11,
            1, -7,
            1, -10,
            1, -1,
            1, 0,
            1, -6,
            1, 0,
            11, 0, 3, 0, 0, 0, 0, 0, 0, 2, 0, 0,
        ])

    def test_one_call(self):
        self.assertEqual(answers([2]), [1, -6])
        self.assertEqual(answers([0, 0]), [1, -2])
        self.assertEqual(answers([1, 0, 0]), [1, -9])
        self.assertEqual(answers([10, 0, 0, 0]), [1, -6])
        self.assertEqual(answers([12, 0]), [1, -6])
        self.assertEqual(answers([14, 0]), [1, -6])
        self.assertEqual(answers([16]), [1, -11])

    def test_100_calls(self):
        told = ask(load(SUMS), hold(SUM_TEXT, SUM_TREE), *[kids(2)] * 98)
        self.assertEqual(told, [[0], [0]] + [[0, 3, 4]] * 98)

    def test_100_calls_that_change(self):
        told = ask(*SUM, *[swap(1, 2), swap(1, 4)] * 48, TEXT, UNDO)
        self.assertEqual(told, [[0]] * 98 + [[0] + SUM_TEXT, [0]])

    def test_100_calls_on_500_nodes(self):
        self.assertEqual(behind(TALL, *[path(499)] * 98), [[0] + [0] * 499] * 98)
        self.assertEqual(behind(TALL, *[cut(0)] * 98), [[0, 0, 500] + chain(500)] * 98)
        self.assertEqual(behind(TALL, *[measure(0)] * 98), [[0, 500, 500]] * 98)
        self.assertEqual(behind(TALL, *[put(499, [], chain(1))] * 97, TREE), [[0]] * 97 + [[0, 500] + chain(500)])

    def test_longest_lists(self):
        told = behind(TALL, *[compare(chain(500))] * 9)
        self.assertEqual(told, [[0, 0]] * 9)
        told = behind(TALL, *[at([0] * 1999)] * 7)
        self.assertEqual(told, [[0, 0]] * 7)

    def test_refused_call_is_read_to_its_end(self):
        refused = [load([-1] * 2000), load([3] * 2000), hold([-1] * 2000, [2] * 2000), hold([97] * 25, [4, 0, 4]),
                   hold([], [0] * 2000), kids(4), up(4), piece(4), of(4), under(4, 4)]
        told = ask(*refused, load(EMPTIES))
        self.assertEqual(told, [[-1], [-2], [-1], [-3], [-9], [-6], [-6], [-6], [-4], [-4], [0]])
        refused = [cut(4), put(4, [-1] * 2000, [2] * 2000), put(4, [97] * 25, [4, 0, 4]), put(4, [], [0] * 2000),
                   put(4, [3, 3], [4, 0, 4]), swap(4, 4), compare([-1, 4]), compare([4]), compare([2] * 3), path(4),
                   at([-1, 4]), at([4] * 2000), measure(4), UNDO]
        expected = [-6, -1, -3, -9, -6, -6, -1, -9, -6, -6, -1, -6, -6, -11, 0]
        self.assertEqual(ask(*refused, load(EMPTIES)), [[number] for number in expected])

    def test_begins_with_no_rules_and_no_tree(self):
        self.assertEqual(ask(of(0), TREE, hold([], [0, 0, 0]), UNDO), [[-4], [-6], [-9], [-11]])

    def test_what_is_handed_in_stays(self):
        line = list(EVERY_CALL)
        answers(line)
        self.assertEqual(line, EVERY_CALL)

    def test_what_is_given_back_is_a_list_of_its_own(self):
        line = load(SUMS) + hold(SUM_TEXT, SUM_TREE) + TEXT
        told = answers(line)
        self.assertIs(type(told), list)
        told.clear()
        self.assertEqual(answers(line), [1, 0, 1, 0, 6, 0] + SUM_TEXT)

    def test_whole_numbers_are_given_back(self):
        self.assertEqual({type(number) for number in answers(EVERY_CALL)}, {int})

    def test_second_time_is_as_the_first(self):
        first = answers(EVERY_CALL)
        self.assertEqual(answers(EVERY_CALL), first)

    def test_nothing_is_kept_for_another_list(self):
        answers(load(SUMS) + hold(SUM_TEXT, SUM_TREE) + swap(1, 2))
        self.assertEqual(ask(TREE, of(0), hold(SUM_TEXT, SUM_TREE), UNDO), [[-6], [-4], [-9], [-11]])


if __name__ == "__main__":
    unittest.main()
