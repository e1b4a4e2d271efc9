"""Promises 4 to 7: tree, text, kids, up, piece, of, under; and the refusals that promise 3 tells of them."""

import unittest

from tests.helper import (EMPTIES, MIX, MIXED_TEXT, MIXED_TREE, SUM, SUMS, SUM_TEXT, SUM_TREE, TALL, TEXT, TREE, ask,
                          chain, grammar_row, hold, kids, last, load, of, piece, under, up)

MIXED_KIDS = [[1, 6, 7], [2, 4], [3], [], [5], [], [], [8], []]


class TreeAndText(unittest.TestCase):
    def test_tree(self):
        self.assertEqual(last(*SUM, TREE), [0, 5] + SUM_TREE)
        self.assertEqual(last(*MIX, TREE), [0, 9] + MIXED_TREE)

    def test_text(self):
        self.assertEqual(last(*SUM, TEXT), [0] + SUM_TEXT)
        self.assertEqual(last(*MIX, TEXT), [0] + MIXED_TEXT)

    def test_empty_text(self):
        held = [load(EMPTIES), hold([], [2, 0, 0])]
        self.assertEqual(last(*held, TREE), [0, 1, 2, 0, 0])
        self.assertEqual(last(*held, TEXT), [0])

    def test_500_nodes(self):
        self.assertEqual(last(*TALL, TREE), [0, 500] + chain(500))


class KidsAndUp(unittest.TestCase):
    def test_kids(self):
        for node, expected in enumerate([[1, 2], [], [3, 4], [], []]):
            self.assertEqual(last(*SUM, kids(node)), [0] + expected)

    def test_kids_of_several_nonterminals(self):
        for node, expected in enumerate(MIXED_KIDS):
            self.assertEqual(last(*MIX, kids(node)), [0] + expected)

    def test_up(self):
        for node, expected in enumerate([[0], [1, 0], [1, 0], [1, 2], [1, 2]]):
            self.assertEqual(last(*SUM, up(node)), [0] + expected)

    def test_up_is_the_way_back_from_kids(self):
        self.assertEqual(last(*MIX, up(0)), [0, 0])
        for node, expected in enumerate(MIXED_KIDS):
            for child in expected:
                self.assertEqual(last(*MIX, up(child)), [0, 1, node])

    def test_eight_children(self):
        row = grammar_row(1, [(0, [(0,)] * 8), (0, [])])
        held = [load(row), hold([], [0, 0, 0] + [1, 0, 0] * 8)]
        self.assertEqual(last(*held, kids(0)), [0, 1, 2, 3, 4, 5, 6, 7, 8])
        self.assertEqual(last(*held, up(8)), [0, 1, 0])

    def test_500_nodes_one_beneath_another(self):
        self.assertEqual(last(*TALL, kids(0)), [0, 1])
        self.assertEqual(last(*TALL, kids(498)), [0, 499])
        self.assertEqual(last(*TALL, kids(499)), [0])
        self.assertEqual(last(*TALL, up(499)), [0, 1, 498])
        self.assertEqual(last(*TALL, up(0)), [0, 0])


class Pieces(unittest.TestCase):
    def test_ordinary_pieces(self):
        expected = [[0, 5, 97, 43, 98, 43, 99], [0, 1, 97], [2, 5, 98, 43, 99], [2, 3, 98], [4, 5, 99]]
        for node, told in enumerate(expected):
            self.assertEqual(last(*SUM, piece(node)), [0] + told)

    def test_pieces_without_bytes(self):
        self.assertEqual(last(*MIX, piece(3)), [0, 0, 0])
        self.assertEqual(last(*MIX, piece(8)), [0, 3, 3])
        self.assertEqual(last(load(EMPTIES), hold([], [2, 0, 0]), piece(0)), [0, 0, 0])

    def test_24_bytes(self):
        text = list(range(232, 256))
        row = grammar_row(1, [(0, [(0, 255), (0,)]), (0, [])])
        tree = [number for place in range(24) for number in [0, place, 24]] + [1, 24, 24]
        held = [load(row), hold(text, tree)]
        self.assertEqual(last(*held, piece(0)), [0, 0, 24] + text)
        self.assertEqual(last(*held, piece(23)), [0, 23, 24, 255])
        self.assertEqual(last(*held, piece(24)), [0, 24, 24])


class OfAndUnder(unittest.TestCase):
    def test_of(self):
        self.assertEqual(last(*SUM, of(0)), [0, 0, 2])
        self.assertEqual(last(*SUM, of(1)), [0, 1, 3, 4])

    def test_of_a_rule_without_nodes(self):
        self.assertEqual(last(load(SUMS), hold([97], [1, 0, 1]), of(0)), [0])

    def test_of_tells_rules_of_one_nonterminal_apart(self):
        for rule, expected in enumerate([[0], [2, 4, 7], [1], [3, 8], [5, 6]]):
            self.assertEqual(last(*MIX, of(rule)), [0] + expected)

    def test_under(self):
        self.assertEqual(last(*SUM, under(0, 1)), [0, 1, 3, 4])
        self.assertEqual(last(*SUM, under(1, 0)), [0])
        self.assertEqual(last(*SUM, under(1, 1)), [0])

    def test_no_node_stands_beneath_itself(self):
        self.assertEqual(last(*SUM, under(0, 0)), [0, 2])
        self.assertEqual(last(load(SUMS), hold([97], [1, 0, 1]), under(1, 1)), [0])

    def test_under_reaches_beneath_children(self):
        self.assertEqual(last(*MIX, under(0, 3)), [0, 3, 8])
        self.assertEqual(last(*MIX, under(2, 4)), [0, 5])
        self.assertEqual(last(*MIX, under(2, 1)), [0, 2, 4])

    def test_under_leaves_out_what_stands_beside(self):
        self.assertEqual(last(*MIX, under(1, 4)), [0, 5])
        self.assertEqual(last(*MIX, under(2, 3)), [0, 3])

    def test_each_node_is_told_once(self):
        self.assertEqual(last(*TALL, under(0, 0)), [0] + list(range(1, 499)))
        self.assertEqual(last(*TALL, under(0, 2)), [0, 499])

    def test_500_nodes(self):
        self.assertEqual(last(*TALL, of(0)), [0] + list(range(499)))
        self.assertEqual(last(*TALL, of(1)), [0])
        self.assertEqual(last(*TALL, of(2)), [0, 499])


class Refused(unittest.TestCase):
    def test_rule_that_is_not_there(self):
        for rule in [-1, 2, 10 ** 18, -10 ** 18]:
            for call in [of(rule), under(rule, 0), under(0, rule), under(rule, rule)]:
                self.assertEqual(last(*SUM, call), [-4], call)

    def test_no_tree_is_held(self):
        for call in [TREE, TEXT, kids(0), up(0), piece(0), of(0), under(0, 1)]:
            self.assertEqual(last(load(SUMS), call), [-6], call)

    def test_no_tree_is_held_at_the_beginning(self):
        for call in [TREE, TEXT, kids(0), up(0), piece(0)]:
            self.assertEqual(last(call), [-6], call)

    def test_no_tree_is_held_behind_a_refused_hold(self):
        for call in [TREE, TEXT, kids(0), up(0), piece(0), of(0), under(0, 1)]:
            self.assertEqual(last(load(SUMS), hold([97], [0, 0, 1]), call), [-6], call)

    def test_missing_rule_is_told_ahead_of_no_tree(self):
        for call in [of(0), of(-1), under(0, 0), under(-1, 0)]:
            self.assertEqual(last(call), [-4], call)
        for call in [of(2), of(-1), under(0, 2), under(2, 0), under(0, -1)]:
            self.assertEqual(last(load(SUMS), call), [-4], call)

    def test_node_that_is_not_there(self):
        for node in [-1, -5, 5, 10 ** 18, -10 ** 18]:
            for call in [kids(node), up(node), piece(node)]:
                self.assertEqual(last(*SUM, call), [-7], call)
        for call in [kids(500), up(500), piece(500)]:
            self.assertEqual(last(*TALL, call), [-7], call)

    def test_no_tree_is_told_ahead_of_a_missing_node(self):
        for node in [-1, 5, 10 ** 18]:
            for call in [kids(node), up(node), piece(node)]:
                self.assertEqual(last(load(SUMS), call), [-6], call)

    def test_refusals_leave_the_tree_held(self):
        told = ask(*SUM, kids(5), up(-1), piece(9), of(2), under(0, 2), TREE, TEXT)
        self.assertEqual(told[2:], [[-7], [-7], [-7], [-4], [-4], [0, 5] + SUM_TREE, [0] + SUM_TEXT])


if __name__ == "__main__":
    unittest.main()
