"""Promise 14: undo; and of promises 1 and 2, that there are none before behind a load or a hold."""

import unittest

from tests.helper import (EMPTIES, SUM, SUMS, SUM_TEXT, SUM_TREE, TEXT, TREE, UNDO, ask, behind, chain, compare, cut,
                          hold, kids, last, load, put, swap)

HELD = [[0] + SUM_TEXT, [0, 5] + SUM_TREE]
SWAPPED = [[0, 98, 43, 99, 43, 97], [0, 5, 0, 0, 5, 0, 0, 3, 1, 0, 1, 1, 2, 3, 1, 4, 5]]
SHORT = [[0, 97, 43, 99], [0, 3, 0, 0, 3, 1, 0, 1, 1, 2, 3]]
SHORTEN = put(2, [99], [1, 0, 1])

# Each put makes the tree, a chain, one node higher; so the height tells how many of them count.
NONE_PUT = [load(EMPTIES), hold([], chain(1))]


def grow_to(height):
    return put(0, [], chain(height))


def puts(count):
    """So many puts, the first of which makes a chain of 2 nodes."""
    return [grow_to(height) for height in range(2, count + 2)]


def chain_told(height):
    return [0, height] + chain(height)


class Undone(unittest.TestCase):
    def test_put(self):
        self.assertEqual(behind(SUM, SHORTEN, TEXT, TREE, UNDO, TEXT, TREE), [[0]] + SHORT + [[0]] + HELD)

    def test_swap(self):
        self.assertEqual(behind(SUM, swap(1, 2), TEXT, TREE, UNDO, TEXT, TREE), [[0]] + SWAPPED + [[0]] + HELD)

    def test_latest_first(self):
        told = behind(SUM, SHORTEN, swap(1, 2), TEXT, UNDO, TEXT, TREE, UNDO, TEXT, TREE)
        self.assertEqual(told, [[0], [0], [0, 99, 43, 97], [0]] + SHORT + [[0]] + HELD)

    def test_put_of_the_same_tree_counts(self):
        told = behind(SUM, put(0, SUM_TEXT, SUM_TREE), UNDO, TEXT, TREE, UNDO)
        self.assertEqual(told, [[0], [0]] + HELD + [[-11]])

    def test_swap_of_trees_that_are_the_same_counts(self):
        held = [load(SUMS), hold([97, 43, 97], [0, 0, 3, 1, 0, 1, 1, 2, 3])]
        self.assertEqual(behind(held, swap(1, 2), UNDO, TEXT, UNDO), [[0], [0], [0, 97, 43, 97], [-11]])

    def test_other_change_behind_undo(self):
        told = behind(SUM, swap(1, 2), UNDO, SHORTEN, TEXT, UNDO, TEXT, TREE, UNDO)
        self.assertEqual(told, [[0], [0], [0], SHORT[0], [0]] + HELD + [[-11]])

    def test_children_are_those_of_before(self):
        told = behind(SUM, swap(1, 2), kids(1), UNDO, kids(1), kids(2), cut(2), compare(SUM_TREE))
        self.assertEqual(told, [[0], [0, 2, 3], [0], [0], [0, 3, 4], [0, 3, 98, 43, 99, 3, 0, 0, 3, 1, 0, 1, 1, 2, 3],
                                [0, 0]])

    def test_grammar_stays(self):
        told = behind(SUM, SHORTEN, UNDO, SHORTEN, TEXT, hold(SUM_TEXT, SUM_TREE))
        self.assertEqual(told, [[0], [0], [0], SHORT[0], [0]])


class HowMany(unittest.TestCase):
    def test_16_changes(self):
        told = behind(NONE_PUT, *puts(16), *[UNDO] * 16, TREE, UNDO, TREE)
        self.assertEqual(told, [[0]] * 32 + [chain_told(1), [-11], chain_told(1)])

    def test_17_changes_and_17_times_undo(self):
        told = behind(NONE_PUT, *puts(17), TREE, *[UNDO] * 17, TREE)
        self.assertEqual(told, [[0]] * 17 + [chain_told(18)] + [[0]] * 16 + [[-11], chain_told(2)])

    def test_each_of_16_in_its_turn(self):
        turns = [call for turn in range(16) for call in [UNDO, TREE]]
        told = behind(NONE_PUT, *puts(20), *turns, UNDO)
        expected = [answer for height in range(20, 4, -1) for answer in [[0], chain_told(height)]]
        self.assertEqual(told, [[0]] * 20 + expected + [[-11]])

    def test_60_changes(self):
        told = behind(NONE_PUT, *puts(60), *[UNDO] * 17, TREE)
        self.assertEqual(told, [[0]] * 76 + [[-11], chain_told(45)])

    def test_swaps_count_too(self):
        told = behind(SUM, SHORTEN, *[swap(1, 2)] * 16, *[UNDO] * 17, TEXT, TREE)
        self.assertEqual(told, [[0]] * 33 + [[-11]] + SHORT)

    def test_undo_makes_room(self):
        told = behind(NONE_PUT, *puts(17), UNDO, UNDO, grow_to(30), grow_to(31), *[UNDO] * 17, TREE)
        self.assertEqual(told, [[0]] * 37 + [[-11], chain_told(2)])


class NoneBefore(unittest.TestCase):
    def test_new_object(self):
        self.assertEqual(ask(UNDO, UNDO), [[-11], [-11]])

    def test_no_tree_is_held(self):
        self.assertEqual(last(load(SUMS), UNDO), [-11])

    def test_tree_is_held_and_not_changed(self):
        self.assertEqual(behind(SUM, UNDO, TEXT, TREE), [[-11]] + HELD)

    def test_behind_a_load(self):
        told = behind(SUM, swap(1, 2), load(SUMS), UNDO, TREE)
        self.assertEqual(told, [[0], [0], [-11], [-6]])

    def test_behind_a_hold(self):
        told = behind(SUM, swap(1, 2), SHORTEN, hold(SUM_TEXT, SUM_TREE), UNDO, TEXT, TREE)
        self.assertEqual(told, [[0], [0], [0], [-11]] + HELD)

    def test_changes_behind_a_hold_alone_are_undone(self):
        told = behind(SUM, swap(1, 2), hold([98], [1, 0, 1]), put(0, [99], [1, 0, 1]), UNDO, TEXT, UNDO)
        self.assertEqual(told, [[0], [0], [0], [0], [0, 98], [-11]])

    def test_load_and_hold_themselves_are_not_undone(self):
        told = behind(SUM, hold([98], [1, 0, 1]), UNDO, TEXT, load(EMPTIES), UNDO, hold([], chain(1)), TREE)
        self.assertEqual(told, [[0], [-11], [0, 98], [0], [-11], [0], chain_told(1)])


if __name__ == "__main__":
    unittest.main()
