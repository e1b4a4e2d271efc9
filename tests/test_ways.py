"""Promises 11 to 13: compare, path, at, measure."""

import unittest

from tests.helper import (EMPTIES, LETTERS, MIX, MIXED_TREE, SUM, SUM_TEXT, SUM_TREE, TALL, TEXT, TREE, UNDO, at,
                          behind, chain, compare, grammar_row, hold, last, letters_tree, load, measure, path, put, swap)

OTHER_SUM_TREE = [0, 0, 5, 0, 0, 3, 1, 0, 1, 1, 2, 3, 1, 4, 5]

# 0 -> 0 0, 0 -> a, 0 -> no symbols, and the second rule once more.
PAIRS = grammar_row(1, [(0, [(0,), (0,)]), (0, [(97, 97)]), (0, []), (0, [(97, 97)])])

# 499 nodes with two children each or none: every left one has none, but the last.
WIDE = [load(EMPTIES), hold([], [1, 0, 0, 2, 0, 0] * 249 + [2, 0, 0])]

MIXED_PATHS = [[], [0], [0, 0], [0, 0, 0], [0, 1], [0, 1, 0], [1], [2], [2, 0]]


class Compare(unittest.TestCase):
    def test_same_tree(self):
        self.assertEqual(last(*SUM, compare(SUM_TREE)), [0, 0])
        self.assertEqual(last(*MIX, compare(MIXED_TREE)), [0, 0])
        self.assertEqual(last(*TALL, compare(chain(500))), [0, 0])

    def test_first_difference_in_the_rule(self):
        self.assertEqual(last(*SUM, compare(OTHER_SUM_TREE)), [0, 1, 1])

    def test_first_difference_at_the_root(self):
        held = [load(PAIRS), hold([97], [1, 0, 1])]
        self.assertEqual(last(*held, compare([0, 0, 1, 1, 0, 1, 2, 1, 1])), [0, 1, 0])
        self.assertEqual(last(*held, compare([3, 0, 1])), [0, 1, 0])

    def test_first_difference_in_the_end_alone(self):
        three = [97, 97, 97]
        left = [0, 0, 3, 0, 0, 2, 1, 0, 1, 1, 1, 2, 1, 2, 3]
        leftmost = [0, 0, 3, 0, 0, 1, 1, 0, 1, 2, 1, 1, 0, 1, 3, 1, 1, 2, 1, 2, 3]
        held = [load(PAIRS), hold(three, left)]
        self.assertEqual(last(*held, compare(leftmost)), [0, 1, 1])

    def test_first_difference_at_the_last_node(self):
        held = [load(PAIRS), hold([97, 97], [0, 0, 2, 1, 0, 1, 1, 1, 2])]
        self.assertEqual(last(*held, compare([0, 0, 2, 1, 0, 1, 3, 1, 2])), [0, 1, 2])

    def test_more_or_fewer_nodes(self):
        held = [load(EMPTIES), hold([], chain(3))]
        self.assertEqual(last(*held, compare(chain(500))), [0, 1, 2])
        self.assertEqual(last(*held, compare(chain(2))), [0, 1, 1])
        self.assertEqual(last(*held, compare(chain(1))), [0, 1, 0])
        self.assertEqual(last(*TALL, compare(chain(499))), [0, 1, 498])
        self.assertEqual(last(*TALL, compare([0, 0, 0] * 497 + [1, 0, 0, 2, 0, 0, 2, 0, 0])), [0, 1, 497])

    def test_24_bytes(self):
        held = [load(LETTERS), hold([97] * 24, letters_tree(24))]
        self.assertEqual(last(*held, compare(letters_tree(24))), [0, 0])
        self.assertEqual(last(*held, compare(letters_tree(23))), [-9])

    def test_tree_that_is_held_by_then(self):
        told = behind(SUM, swap(1, 2), compare(SUM_TREE), compare(OTHER_SUM_TREE), UNDO, compare(SUM_TREE),
                      put(2, [97], [1, 0, 1]), compare(SUM_TREE), compare([0, 0, 3, 1, 0, 1, 1, 2, 3]))
        self.assertEqual(told, [[0], [0, 1, 1], [0, 0], [0], [0, 0], [0], [-9], [0, 0]])

    def test_no_tree_of_the_start_over_the_held_text(self):
        for tree in [[], [1, 0, 1], [0, 0, 3, 1, 0, 1, 1, 2, 3], SUM_TREE[:-3], SUM_TREE + [1, 4, 5], SUM_TREE[3:],
                     [2, 0, 5], [0, 0, 5] * 500, [10 ** 18] * 3, SUM_TREE[:-1] + [6]]:
            self.assertEqual(last(*SUM, compare(tree)), [-9], tree)

    def test_tree_of_another_nonterminal(self):
        row = grammar_row(2, [(0, [(97, 97)]), (1, [(97, 97)])])
        self.assertEqual(last(load(row), hold([97], [0, 0, 1]), compare([1, 0, 1])), [-9])

    def test_held_tree_stays(self):
        told = behind(SUM, compare(OTHER_SUM_TREE), compare([]), TEXT, TREE, UNDO)
        self.assertEqual(told, [[0, 1, 1], [-9], [0] + SUM_TEXT, [0, 5] + SUM_TREE, [-11]])


class PathAndAt(unittest.TestCase):
    def test_sum(self):
        for node, steps in enumerate([[], [0], [1], [1, 0], [1, 1]]):
            self.assertEqual(last(*SUM, path(node)), [0] + steps)
            self.assertEqual(last(*SUM, at(steps)), [0, 1, node])

    def test_only_children_count(self):
        for node, steps in enumerate(MIXED_PATHS):
            self.assertEqual(last(*MIX, path(node)), [0] + steps)
            self.assertEqual(last(*MIX, at(steps)), [0, 1, node])

    def test_empty_path(self):
        self.assertEqual(last(*MIX, path(0)), [0])
        self.assertEqual(last(*MIX, at([])), [0, 1, 0])
        self.assertEqual(last(load(EMPTIES), hold([], [2, 0, 0]), at([])), [0, 1, 0])

    def test_eight_children(self):
        row = grammar_row(1, [(0, [(0,)] * 8), (0, [])])
        held = [load(row), hold([], [0, 0, 0] + [1, 0, 0] * 7 + [0, 0, 0] + [1, 0, 0] * 8)]
        self.assertEqual(last(*held, path(16)), [0, 7, 7])
        self.assertEqual(last(*held, at([7, 7])), [0, 1, 16])
        self.assertEqual(last(*held, at([7, 8])), [0, 0])
        self.assertEqual(last(*held, at([6, 0])), [0, 0])

    def test_500_nodes_one_beneath_another(self):
        self.assertEqual(last(*TALL, path(499)), [0] + [0] * 499)
        self.assertEqual(last(*TALL, at([0] * 499)), [0, 1, 499])
        self.assertEqual(last(*TALL, at([0] * 500)), [0, 0])
        self.assertEqual(last(*TALL, at([0] * 2000)), [0, 0])
        self.assertEqual(last(*WIDE, path(498)), [0] + [1] * 249)
        self.assertEqual(last(*WIDE, at([1] * 249)), [0, 1, 498])

    def test_child_that_is_not_there(self):
        for steps in [[2], [0, 0], [1, 2], [1, 1, 0], [0, 1], [10 ** 18], [1, 10 ** 18, 0], [2, 1, 0], [5, 0, 1]]:
            self.assertEqual(last(*SUM, at(steps)), [0, 0], steps)

    def test_number_below_zero(self):
        for steps in [[-1], [0, -1], [1, 1, -1], [2, 2, -10 ** 18], [0] * 1999 + [-1], [-2, 0]]:
            self.assertEqual(last(*SUM, at(steps)), [-1], steps)

    def test_held_tree_stays(self):
        told = behind(SUM, path(4), at([1, 1]), at([3]), TEXT, TREE, UNDO)
        self.assertEqual(told, [[0, 1, 1], [0, 1, 4], [0, 0], [0] + SUM_TEXT, [0, 5] + SUM_TREE, [-11]])


class Measure(unittest.TestCase):
    def test_sum(self):
        for node, told in enumerate([[5, 3], [1, 1], [3, 2], [1, 1], [1, 1]]):
            self.assertEqual(last(*SUM, measure(node)), [0] + told)

    def test_longest_way_is_not_the_last(self):
        for node, told in enumerate([[9, 4], [5, 3], [2, 2], [1, 1], [2, 2], [1, 1], [1, 1], [2, 2], [1, 1]]):
            self.assertEqual(last(*MIX, measure(node)), [0] + told)

    def test_one_node(self):
        self.assertEqual(last(load(EMPTIES), hold([], [2, 0, 0]), measure(0)), [0, 1, 1])

    def test_500_nodes_one_beneath_another(self):
        for node in [0, 1, 250, 498, 499]:
            self.assertEqual(last(*TALL, measure(node)), [0, 500 - node, 500 - node])

    def test_499_nodes_side_by_side(self):
        self.assertEqual(last(*WIDE, measure(0)), [0, 499, 250])
        self.assertEqual(last(*WIDE, measure(1)), [0, 1, 1])
        self.assertEqual(last(*WIDE, measure(2)), [0, 497, 249])
        self.assertEqual(last(*WIDE, measure(498)), [0, 1, 1])

    def test_held_tree_stays(self):
        told = behind(SUM, measure(2), TEXT, TREE, UNDO)
        self.assertEqual(told, [[0, 3, 2], [0] + SUM_TEXT, [0, 5] + SUM_TREE, [-11]])


if __name__ == "__main__":
    unittest.main()
