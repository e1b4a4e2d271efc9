"""Promise 3: the refusals of all calls, their order, and that a refused call leaves the object as it was."""

import unittest

from tests.helper import (EMPTIES, SUM, SUMS, SUM_TEXT, SUM_TREE, TALL, TEXT, TREE, UNDO, ask, at, behind, chain,
                          compare, cut, hold, kids, last, load, measure, of, path, piece, put, swap, under, up)

LEAF = ([97], [1, 0, 1])
FAR = 10 ** 18
NO_NODES = [-1, -5, 5, FAR, -FAR]

# Each is refused behind SUM, a put and a swap, where there are 5 nodes and 2 rules.
REFUSED = [
    (load([-1]), -1), (load([]), -2), (load(SUMS[:-1]), -2),
    (hold([256], SUM_TREE), -1), (hold(SUM_TEXT, [-1]), -1), (hold([97] * 25, SUM_TREE), -3),
    (hold([97], [1, 0]), -9), (hold([97], [0, 0, 1]), -9), (hold([], []), -9),
    (kids(5), -7), (up(-1), -7), (piece(5), -7), (of(2), -4), (under(2, 0), -4), (under(0, -1), -4),
    (cut(5), -7), (cut(-1), -7),
    (put(0, [-1], []), -1), (put(0, [97], [-1]), -1), (put(0, [97] * 25, [0]), -3), (put(0, [97], [0]), -9),
    (put(5, *LEAF), -7), (put(-1, *LEAF), -7), (put(0, [97], [0, 0, 1]), -9),
    (put(1, [97, 43] * 10 + [97], [0, 0, 21, 1, 0, 1] * 10 + [1, 20, 21]), -9),
    (swap(5, 0), -7), (swap(0, 5), -7), (swap(0, 0), -10), (swap(0, 1), -10), (swap(1, 0), -10),
    (compare([-1]), -1), (compare([0]), -9), (compare([]), -9), (compare([1, 0, 1]), -9),
    (path(5), -7), (path(-1), -7), (at([-1]), -1), (measure(5), -7), (measure(-1), -7),
]


def sum_tree(count):
    """A tree over a+a+..+a with so many a's, each + with one a on its left."""
    tree = []
    end = 2 * count - 1
    for place in range(0, end - 1, 2):
        tree += [0, place, end, 1, place, place + 1]
    return tree + [1, end - 1, end]


def sum_text(count):
    return [97] + [43, 97] * (count - 1)


class NoTree(unittest.TestCase):
    def test_every_call_that_asks_a_tree(self):
        for call in [TREE, TEXT, kids(0), up(0), piece(0), of(0), under(0, 1), cut(0), put(0, *LEAF), swap(1, 2),
                     compare([1, 0, 1]), path(0), at([]), at([0]), measure(0)]:
            self.assertEqual(last(load(SUMS), call), [-6], call)

    def test_new_object(self):
        for call in [TREE, TEXT, kids(0), up(0), piece(0), cut(0), put(0, *LEAF), swap(1, 2), compare([1, 0, 1]),
                     path(0), at([]), measure(0)]:
            self.assertEqual(ask(call), [[-6]], call)

    def test_is_told_ahead_of_a_missing_node(self):
        for node in NO_NODES:
            for call in [cut(node), put(node, *LEAF), swap(node, 0), swap(0, node), path(node), measure(node)]:
                self.assertEqual(last(load(SUMS), call), [-6], call)

    def test_is_told_ahead_of_what_is_no_tree(self):
        for call in [put(0, [97], [0, 0, 1]), put(0, [], []), compare([0, 0, 1]), compare([]), swap(0, 0)]:
            self.assertEqual(last(load(SUMS), call), [-6], call)

    def test_behind_a_load(self):
        for call in [cut(0), put(0, *LEAF), swap(1, 2), compare(SUM_TREE), path(0), at([]), measure(0)]:
            self.assertEqual(last(*SUM, load(SUMS), call), [-6], call)


class NoNode(unittest.TestCase):
    def test_k(self):
        for node in NO_NODES:
            for call in [cut(node), put(node, *LEAF), swap(node, 1), path(node), measure(node)]:
                self.assertEqual(last(*SUM, call), [-7], call)

    def test_m(self):
        for node in NO_NODES:
            for other in [0, 1, 4] + NO_NODES:
                self.assertEqual(last(*SUM, swap(other, node)), [-7], (other, node))

    def test_500_nodes(self):
        for call in [cut(500), put(500, [], chain(1)), swap(500, 0), swap(0, 500), path(500), measure(500)]:
            self.assertEqual(last(*TALL, call), [-7], call)

    def test_nodes_are_those_of_the_tree_that_is_held_by_then(self):
        told = behind(SUM, put(2, *LEAF), cut(3), path(2), UNDO, path(3), put(1, SUM_TEXT, SUM_TREE), measure(8),
                      measure(9))
        self.assertEqual(told, [[0], [-7], [0, 1], [0], [0, 1, 0], [0], [0, 1, 1], [-7]])

    def test_is_told_ahead_of_what_is_no_tree(self):
        for node in NO_NODES:
            self.assertEqual(last(*SUM, put(node, [97], [0, 0, 1])), [-7])
            self.assertEqual(last(*SUM, put(node, [], [])), [-7])

    def test_is_told_ahead_of_what_is_not_to_be_swapped(self):
        for call in [swap(5, 5), swap(-1, -1), swap(0, 5), swap(5, 0)]:
            self.assertEqual(last(*SUM, call), [-7])


class TextWithATreeOfPut(unittest.TestCase):
    """These come first, whether a tree is held or not, and whether node k is there or not."""

    def refused(self, octets, tree, refusal):
        for held in [[], [load(SUMS)], SUM]:
            for node in [0, 1] + NO_NODES:
                self.assertEqual(last(*held, put(node, octets, tree)), [refusal], (held, node, octets, tree))

    def test_number_that_is_no_byte(self):
        for number in [-1, 256, FAR, -FAR]:
            self.refused([number], [1, 0, 1], -1)
            self.refused([97] * 24 + [number], [], -1)
            self.refused([97, number], [1], -1)

    def test_number_of_the_tree_below_zero(self):
        for place in range(3):
            tree = [1, 0, 1]
            tree[place] = -1
            self.refused([97], tree, -1)
        self.refused([97] * 25, [1, 0, 1, -1], -1)
        self.refused([97], [0] * 1999 + [-FAR], -1)

    def test_more_than_24_bytes(self):
        self.refused([97] * 25, [1, 0, 1], -3)
        self.refused([97] * 25, [1, 0], -3)
        self.refused([97] * 2000, [0] * 2000, -3)

    def test_not_three_numbers_for_each_node_or_more_than_500_nodes(self):
        self.refused([97], [1], -9)
        self.refused([97], [1, 0], -9)
        self.refused([97], [1, 0, 1, 0], -9)
        self.refused([97], [0, 0, 1] * 501, -9)
        self.refused([97], [0, 0, 1] * 666, -9)

    def test_500_nodes_are_not_too_many_here(self):
        self.assertEqual(last(load(EMPTIES), put(0, [], chain(500))), [-6])
        self.assertEqual(last(load(EMPTIES), hold([], chain(1)), put(1, [], chain(500))), [-7])
        self.assertEqual(last(load(EMPTIES), hold([], chain(1)), put(0, [], chain(500))), [0])
        self.assertEqual(last(load(EMPTIES), hold([], chain(1)), put(0, [], chain(501))), [-9])

    def test_24_bytes_are_not_too_many_here(self):
        self.assertEqual(last(load(SUMS), put(0, [97] * 24, [1, 0, 1])), [-6])
        self.assertEqual(last(*SUM, put(5, [97] * 24, [1, 0, 1])), [-7])
        self.assertEqual(last(*SUM, put(1, [97] * 24, [1, 0, 1])), [-9])

    def test_no_tree_is_told_ahead_of_a_new_text_too_long(self):
        self.assertEqual(last(*SUM, put(1, sum_text(12), sum_tree(12)[:-3])), [-9])
        self.assertEqual(last(*SUM, put(1, sum_text(12), sum_tree(12))), [-3])
        self.assertEqual(last(*SUM, put(1, sum_text(10), sum_tree(10))), [0])
        self.assertEqual(last(*SUM, put(1, sum_text(11), sum_tree(11))), [-3])


class ListsOfCompareAndAt(unittest.TestCase):
    """Of compare and at the list is looked at before it is asked whether a tree is held."""

    def refused(self, call, refusal):
        for held in [[], [load(SUMS)], SUM]:
            self.assertEqual(last(*held, call), [refusal], (held, call))

    def test_number_below_zero(self):
        for numbers in [[-1], [0, 0, -1], [0, -FAR], [0] * 1999 + [-1], [0] * 1503 + [-1]]:
            self.refused(compare(numbers), -1)
            self.refused(at(numbers), -1)

    def test_compare_with_what_has_not_three_numbers_for_each_node(self):
        for tree in [[0], [0, 0], SUM_TREE[:-1], SUM_TREE + [0], [0] * 2000]:
            self.refused(compare(tree), -9)

    def test_compare_with_more_than_500_nodes(self):
        for nodes in [501, 666]:
            self.refused(compare([0, 0, 5] * nodes), -9)

    def test_compare_with_500_nodes(self):
        self.assertEqual(last(load(EMPTIES), compare(chain(500))), [-6])
        self.assertEqual(last(load(EMPTIES), hold([], chain(500)), compare(chain(500))), [0, 0])
        self.assertEqual(last(load(EMPTIES), hold([], chain(500)), compare(chain(501))), [-9])

    def test_longest_path(self):
        self.assertEqual(last(load(SUMS), at([0] * 2000)), [-6])
        self.assertEqual(last(*SUM, at([0] * 2000)), [0, 0])


class LeftAsItWas(unittest.TestCase):
    def test_tree_text_rules_and_those_before(self):
        changes = [put(2, *LEAF), UNDO, swap(1, 2), swap(1, 4), swap(1, 2)]
        after = [TEXT, TREE, of(1), UNDO, TEXT, TREE, UNDO, TEXT, UNDO, TEXT, TREE, UNDO, of(2),
                 hold(SUM_TEXT, SUM_TREE)]
        expected = behind(SUM, *changes, *after)
        self.assertEqual(expected[-3:], [[-11], [-4], [0]])
        for call, refusal in REFUSED:
            told = behind(SUM, *changes, call, *after)
            self.assertEqual(told[len(changes)], [refusal], call)
            self.assertEqual(told[:len(changes)] + told[len(changes) + 1:], expected, call)

    def test_refused_undo(self):
        self.assertEqual(behind(SUM, UNDO, TEXT, TREE, swap(1, 2), UNDO, UNDO, TEXT),
                         [[-11], [0] + SUM_TEXT, [0, 5] + SUM_TREE, [0], [0], [-11], [0] + SUM_TEXT])

    def test_new_object(self):
        for call in [put(0, *LEAF), swap(0, 1), UNDO, hold(*LEAF), load([1, 1]), cut(0)]:
            self.assertEqual(ask(call, TREE, of(0), UNDO, load(SUMS), hold(*LEAF), TREE)[1:],
                             [[-6], [-4], [-11], [0], [0], [0, 1, 1, 0, 1]], call)

    def test_new_tree_too_long_or_too_large(self):
        told = behind(SUM, swap(1, 2), put(4, sum_text(11), sum_tree(11)), TEXT, UNDO, TEXT, UNDO)
        self.assertEqual(told, [[0], [-3], [0, 98, 43, 99, 43, 97], [0], [0] + SUM_TEXT, [-11]])
        told = behind(TALL, put(1, [], chain(1)), UNDO, put(1, [], chain(500)), TREE, UNDO)
        self.assertEqual(told, [[0], [0], [-8], [0, 500] + chain(500), [-11]])

    def test_calls_that_ask_change_nothing(self):
        asking = [TREE, TEXT, kids(0), up(1), piece(2), of(1), under(0, 1), cut(2), compare(SUM_TREE), path(4), at([1]),
                  measure(0)]
        told = behind(SUM, swap(1, 2), *asking, *asking, UNDO, TEXT, TREE, UNDO)
        self.assertEqual(told[1:13], told[13:25])
        self.assertEqual(told[25:], [[0], [0] + SUM_TEXT, [0, 5] + SUM_TREE, [-11]])


if __name__ == "__main__":
    unittest.main()
