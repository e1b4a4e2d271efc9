"""Promise 1: load."""

import unittest

from tests.helper import SUMS, SUM_TEXT, SUM_TREE, TEXT, TREE, ask, grammar_row, hold, last, load, of


class Taken(unittest.TestCase):
    def test_ordinary_grammar(self):
        self.assertEqual(ask(load(SUMS)), [[0]])

    def test_one_nonterminal_and_no_rules(self):
        self.assertEqual(ask(load([1, 0])), [[0]])

    def test_rule_without_symbols(self):
        self.assertEqual(ask(load([1, 1, 0, 0])), [[0]])

    def test_same_rule_twice(self):
        self.assertEqual(ask(load([1, 2, 0, 0, 0, 0]), of(1)), [[0], [-6]])

    def test_largest_grammar(self):
        symbols = [(19,), (0, 255)] * 4
        row = grammar_row(20, [(k % 20, symbols) for k in range(60)])
        self.assertEqual(ask(load(row)), [[0]])

    def test_longest_row(self):
        row = grammar_row(20, [(19, [(0, 255)] * 8)] * 60)
        self.assertEqual(ask(load(row), of(59), of(60)), [[0], [-6], [-4]])

    def test_range_of_one_byte(self):
        for byte in [0, 97, 255]:
            self.assertEqual(ask(load([1, 1, 0, 1, 1, byte, byte])), [[0]])

    def test_nonterminal_without_rules(self):
        self.assertEqual(ask(load([3, 1, 0, 2, 0, 1, 0, 2])), [[0]])

    def test_each_symbol_is_kept_as_told(self):
        row = grammar_row(3, [(0, [(1,), (97, 98), (2,)]), (1, []), (2, [(99, 99)])])
        tree = [0, 0, 2, 1, 0, 0, 2, 1, 2]
        self.assertEqual(ask(load(row), hold([97, 99], tree), hold([98, 99], tree)), [[0], [0], [0]])
        self.assertEqual(last(load(row), hold([99, 99], tree)), [-9])
        self.assertEqual(last(load(row), hold([97, 98], tree)), [-9])


class BelowZero(unittest.TestCase):
    def test_each_number_of_the_row(self):
        for place in range(len(SUMS)):
            for number in [-1, -10 ** 18]:
                row = list(SUMS)
                row[place] = number
                self.assertEqual(ask(load(row)), [[-1]], (place, number))

    def test_is_told_ahead_of_no_grammar_row(self):
        self.assertEqual(ask(load([-1])), [[-1]])
        self.assertEqual(ask(load([0, 0, -1])), [[-1]])
        self.assertEqual(ask(load([21] + [7] * 1998 + [-1])), [[-1]])


class NoGrammarRow(unittest.TestCase):
    def refused(self, row):
        self.assertEqual(ask(load(row)), [[-2]], row)

    def test_every_row_that_stops_early(self):
        for length in range(len(SUMS)):
            self.refused(SUMS[:length])

    def test_row_that_goes_on(self):
        self.refused(SUMS + [0])
        self.refused(SUMS + SUMS)
        self.refused([1, 0, 0])

    def test_how_many_nonterminals(self):
        self.refused([0, 0])
        self.refused([21, 0])
        self.refused([10 ** 18, 0])
        self.assertEqual(ask(load([20, 0])), [[0]])

    def test_how_many_rules(self):
        self.refused([1, 61] + [0, 0] * 61)
        self.refused([1, 10 ** 18])
        self.refused([1, 2, 0, 0])
        self.refused([1, 1, 0, 0, 0, 0])
        self.assertEqual(ask(load([1, 60] + [0, 0] * 60)), [[0]])

    def test_how_many_symbols(self):
        self.refused(grammar_row(1, [(0, [(0,)] * 9)]))
        self.refused([1, 1, 0, 10 ** 18])
        self.assertEqual(ask(load(grammar_row(1, [(0, [(0,)] * 8)]))), [[0]])

    def test_nonterminal_of_a_rule(self):
        self.refused([2, 1, 2, 0])
        self.assertEqual(ask(load([2, 1, 1, 0])), [[0]])

    def test_nonterminal_as_a_symbol(self):
        self.refused([2, 1, 0, 1, 0, 2])
        self.assertEqual(ask(load([2, 1, 0, 1, 0, 1])), [[0]])

    def test_symbol_that_is_neither(self):
        self.refused([1, 1, 0, 1, 2, 0])
        self.refused([1, 1, 0, 1, 2, 0, 0])
        self.refused([1, 1, 0, 1, 10 ** 18, 0])

    def test_range_that_is_none(self):
        self.refused([1, 1, 0, 1, 1, 98, 97])
        self.refused([1, 1, 0, 1, 1, 0, 256])
        self.refused([1, 1, 0, 1, 1, 256, 256])


class WhatIsHeldThen(unittest.TestCase):
    def test_no_tree_is_held(self):
        self.assertEqual(last(load(SUMS), hold(SUM_TEXT, SUM_TREE), load(SUMS), TREE), [-6])

    def test_new_grammar_is_held(self):
        held = ask(load(SUMS), load([1, 1, 0, 0]), hold(SUM_TEXT, SUM_TREE), hold([], [0, 0, 0]))
        self.assertEqual(held, [[0], [0], [-9], [0]])

    def test_refused_row_leaves_all_as_it_was(self):
        for row, refusal in [([1, 0, -1], -1), ([1, 0, 0], -2), (SUMS[:-1], -2)]:
            told = ask(load(SUMS), hold(SUM_TEXT, SUM_TREE), load(row), TEXT, of(1), hold([97], [1, 0, 1]))
            self.assertEqual(told[2:], [[refusal], [0] + SUM_TEXT, [0, 1, 3, 4], [0]])


if __name__ == "__main__":
    unittest.main()
