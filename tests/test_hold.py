"""Promise 2: hold, and the refusals of a text with a tree."""

import itertools
import unittest

from tests.helper import (EMPTIES, LETTERS, SUMS, SUM_TEXT, SUM_TREE, TEXT, TREE, ask, chain, grammar_row, hold, last,
                          letters_tree, load, part, trees_by_the_words)
from treecuts.desk import answers

# 0 -> 1 b, 1 -> no symbols, 1 -> a: the start has one rule, which is not the only one.
TWO_STEPS = grammar_row(2, [(0, [(1,), (98, 98)]), (1, []), (1, [(97, 97)])])


class Taken(unittest.TestCase):
    def test_ordinary_text(self):
        self.assertEqual(ask(load(SUMS), hold(SUM_TEXT, SUM_TREE)), [[0], [0]])

    def test_another_tree_of_the_same_text(self):
        other = [0, 0, 5, 0, 0, 3, 1, 0, 1, 1, 2, 3, 1, 4, 5]
        self.assertEqual(last(load(SUMS), hold(SUM_TEXT, other)), [0])

    def test_empty_text(self):
        self.assertEqual(last(load(EMPTIES), hold([], [2, 0, 0])), [0])

    def test_piece_without_bytes_ahead_of_a_byte(self):
        self.assertEqual(last(load(TWO_STEPS), hold([98], [0, 0, 1, 1, 0, 0])), [0])
        self.assertEqual(last(load(TWO_STEPS), hold([97, 98], [0, 0, 2, 2, 0, 1])), [0])

    def test_24_bytes(self):
        text = [97 + place for place in range(24)]
        self.assertEqual(ask(load(LETTERS), hold(text, letters_tree(24)), TEXT), [[0], [0], [0] + text])

    def test_every_byte(self):
        row = grammar_row(1, [(0, [(0, 255)])])
        for byte in [0, 1, 127, 128, 254, 255]:
            self.assertEqual(last(load(row), hold([byte], [0, 0, 1])), [0])

    def test_either_of_two_same_rules(self):
        row = grammar_row(1, [(0, [(97, 97)]), (0, [(97, 97)])])
        for rule in [0, 1]:
            self.assertEqual(last(load(row), hold([97], [rule, 0, 1]), TREE), [0, 1, rule, 0, 1])

    def test_500_nodes_one_beneath_another(self):
        self.assertEqual(last(load(EMPTIES), hold([], chain(500)), TREE), [0, 500] + chain(500))

    def test_500_nodes_side_by_side(self):
        tree = [0, 0, 0] + [1, 0, 0, 2, 0, 0] * 249 + [2, 0, 0]
        self.assertEqual(last(load(EMPTIES), hold([], tree), TREE), [0, 500] + tree)

    def test_later_one_takes_the_place_of_the_earlier(self):
        told = ask(load(SUMS), hold(SUM_TEXT, SUM_TREE), hold([99], [1, 0, 1]), TEXT, TREE)
        self.assertEqual(told[2:], [[0], [0, 99], [0, 1, 1, 0, 1]])


class RefusedFirst(unittest.TestCase):
    def refused(self, octets, tree, refusal):
        self.assertEqual(last(load(SUMS), hold(octets, tree)), [refusal], (octets, tree))

    def test_number_that_is_no_byte(self):
        for number in [-1, 256, 10 ** 18, -10 ** 18]:
            for place in range(5):
                octets = list(SUM_TEXT)
                octets[place] = number
                self.refused(octets, SUM_TREE, -1)

    def test_number_of_the_tree_below_zero(self):
        for place in range(len(SUM_TREE)):
            tree = list(SUM_TREE)
            tree[place] = -1
            self.refused(SUM_TEXT, tree, -1)

    def test_numbers_are_told_ahead_of_the_rest(self):
        self.refused([97] * 24 + [256], SUM_TREE, -1)
        self.refused([97] * 24 + [-1], [0, 0], -1)
        self.refused([97] * 25, [0, 0, 25, -1], -1)
        self.refused(SUM_TEXT, [-1], -1)
        self.refused(SUM_TEXT, [0, 0, 5] * 500 + [0, 0, -5], -1)
        self.refused([97] * 1999 + [256], [0] * 2000, -1)

    def test_more_than_24_bytes(self):
        self.assertEqual(last(load(LETTERS), hold([97] * 25, letters_tree(25))), [-3])
        self.refused([97] * 2000, [], -3)

    def test_bytes_are_told_ahead_of_the_tree(self):
        self.refused([97] * 25, [0, 0], -3)
        self.refused([97] * 25, [0] * 1503, -3)
        self.refused([97] * 25, [], -3)

    def test_not_three_numbers_for_each_node(self):
        for length in range(len(SUM_TREE)):
            self.refused(SUM_TEXT, SUM_TREE[:length], -9)
        self.refused(SUM_TEXT, SUM_TREE + [0], -9)
        self.refused(SUM_TEXT, SUM_TREE + [0, 0], -9)

    def test_more_than_500_nodes(self):
        for nodes in [501, 666]:
            self.assertEqual(last(load(EMPTIES), hold([], chain(nodes))), [-9])

    def test_a_new_object_refuses_in_the_same_order(self):
        self.assertEqual(ask(hold([256], [])), [[-1]])
        self.assertEqual(ask(hold([97] * 25, [])), [[-3]])
        self.assertEqual(ask(hold([], [])), [[-9]])
        self.assertEqual(ask(hold([], [0, 0, 0])), [[-9]])


class NoTreeOfTheStart(unittest.TestCase):
    def refused(self, row, octets, tree):
        self.assertEqual(last(load(row), hold(octets, tree)), [-9], (row, octets, tree))

    def test_every_number_of_the_tree_counts(self):
        for place in range(len(SUM_TREE)):
            for number in [SUM_TREE[place] + 1, SUM_TREE[place] + 2, 10 ** 18]:
                tree = list(SUM_TREE)
                tree[place] = number
                self.refused(SUMS, SUM_TEXT, tree)

    def test_no_nodes(self):
        self.refused(SUMS, SUM_TEXT, [])
        self.refused(EMPTIES, [], [])

    def test_node_too_few_or_too_many(self):
        self.refused(SUMS, SUM_TEXT, SUM_TREE[:-3])
        self.refused(SUMS, SUM_TEXT, SUM_TREE + [1, 4, 5])
        self.refused(EMPTIES, [], [2, 0, 0, 2, 0, 0])

    def test_text_that_goes_on_behind_the_tree(self):
        self.refused(SUMS, [97, 43], [1, 0, 1])
        self.refused(EMPTIES, [97], [2, 0, 0])

    def test_text_that_stops_within_the_tree(self):
        self.refused(SUMS, [], [1, 0, 1])
        self.refused(SUMS, [97, 43], [0, 0, 3, 1, 0, 1, 1, 2, 3])
        self.refused(SUMS, [97, 43], [0, 0, 2, 1, 0, 1, 1, 2, 2])

    def test_byte_outside_of_its_range(self):
        for octets in [[96], [100], [0], [255]]:
            self.refused(SUMS, octets, [1, 0, 1])

    def test_tree_over_a_part_of_the_text(self):
        self.refused(SUMS, SUM_TEXT, [0, 0, 3, 1, 0, 1, 1, 2, 3])
        self.refused(SUMS, SUM_TEXT, [0, 2, 5, 1, 2, 3, 1, 4, 5])

    def test_root_of_another_nonterminal(self):
        self.refused(TWO_STEPS, [97], [2, 0, 1])
        self.refused(TWO_STEPS, [], [1, 0, 0])

    def test_child_of_another_nonterminal(self):
        row = grammar_row(3, [(0, [(1,)]), (1, [(97, 97)]), (2, [(97, 97)])])
        self.refused(row, [97], [0, 0, 1, 2, 0, 1])
        self.assertEqual(last(load(row), hold([97], [0, 0, 1, 1, 0, 1])), [0])

    def test_rule_that_is_not_there(self):
        self.refused(SUMS, [97], [2, 0, 1])
        self.refused(SUMS, [97], [10 ** 18, 0, 1])

    def test_no_rules(self):
        self.refused([1, 0], [], [0, 0, 0])
        self.refused([20, 0], [97], [0, 0, 1])

    def test_nodes_in_another_order(self):
        nodes = [SUM_TREE[k:k + 3] for k in range(0, len(SUM_TREE), 3)]
        for order in itertools.permutations(nodes):
            tree = [number for node in order for number in node]
            expected = [0] if tree == SUM_TREE else [-9]
            self.assertEqual(last(load(SUMS), hold(SUM_TEXT, tree)), expected, tree)

    def test_refused_one_leaves_the_held_one(self):
        for octets, tree, refusal in [([256], [], -1), ([97] * 25, [], -3), ([97], [1], -9), ([97], [0, 0, 1], -9)]:
            told = ask(load(SUMS), hold(SUM_TEXT, SUM_TREE), hold(octets, tree), TEXT, TREE)
            self.assertEqual(told[2:], [[refusal], [0] + SUM_TEXT, [0, 5] + SUM_TREE])


class EverySmallTree(unittest.TestCase):
    """hold takes just the trees that the document's words give, out of all rows of up to three nodes."""

    def agree(self, nonterminals, rules, text):
        expected = set(trees_by_the_words(rules, 0, text, 0, len(text), 3))
        places = range(len(text) + 1)
        nodes = list(itertools.product(range(len(rules) + 1), places, places))
        for count in range(4):
            rows = itertools.product(nodes, repeat=count)
            self.compare(load(grammar_row(nonterminals, rules)), text, rows, expected)

    def compare(self, start, text, rows, expected):
        while True:
            # A list of calls has at most 100 of them.
            some = list(itertools.islice(rows, 99))
            if not some:
                return
            line = list(start)
            for row in some:
                line += hold(text, [number for node in row for number in node])
            for row, answer in zip(some, part(answers(line))[1:], strict=True):
                self.assertEqual(answer, [0] if row in expected else [-9], (text, row))

    def test_pairs_letters_and_nothing(self):
        rules = [(0, [(0,), (0,)]), (0, [(97, 98)]), (0, [])]
        for text in [[], [97], [99], [98, 97]]:
            self.agree(1, rules, text)

    def test_two_nonterminals(self):
        rules = [(0, [(1,), (97, 97), (1,)]), (1, []), (1, [(97, 98)]), (1, [(0,)])]
        for text in [[], [97], [97, 98]]:
            self.agree(2, rules, text)


if __name__ == "__main__":
    unittest.main()
