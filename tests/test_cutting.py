"""Promises 8 to 10: cut, put, swap."""

import unittest

from tests.helper import (EMPTIES, LETTERS, MIX, MIXED_TEXT, MIXED_TREE, SUM, SUMS, SUM_TEXT, SUM_TREE, TALL, TEXT,
                          TREE, UNDO, behind, chain, cut, grammar_row, hold, kids, last, letters_tree, load, path, put,
                          swap, up)

# 0 -> 1 1 1 1, 1 -> no symbols, 1 -> a, 1 -> 1 1: nodes without bytes, side by side at one place.
ROWS = grammar_row(2, [(0, [(1,)] * 4), (1, []), (1, [(97, 97)]), (1, [(1,), (1,)])])
ROW_OF_NONE = [load(ROWS), hold([], [0, 0, 0] + [1, 0, 0] * 4)]

# 0 -> 0, 0 -> a 0, 0 -> no symbols: as many bytes and as many nodes as one likes.
STEPS = grammar_row(1, [(0, [(0,)]), (0, [(97, 97), (0,)]), (0, [])])


def steps_tree(nodes, count):
    """A tree of STEPS with so many nodes over so many bytes, each node the one child of the one before it."""
    tree = [0, 0, count] * (nodes - count - 1)
    for place in range(count):
        tree += [1, place, count]
    return tree + [2, count, count]


class Cut(unittest.TestCase):
    def test_every_node_of_a_sum(self):
        expected = [[5] + SUM_TEXT + [5] + SUM_TREE, [1, 97, 1, 1, 0, 1],
                    [3, 98, 43, 99, 3, 0, 0, 3, 1, 0, 1, 1, 2, 3], [1, 98, 1, 1, 0, 1], [1, 99, 1, 1, 0, 1]]
        for node, told in enumerate(expected):
            self.assertEqual(last(*SUM, cut(node)), [0] + told)

    def test_pieces_without_bytes(self):
        self.assertEqual(last(*MIX, cut(2)), [0, 0, 2, 1, 0, 0, 3, 0, 0])
        self.assertEqual(last(*MIX, cut(7)), [0, 0, 2, 1, 0, 0, 3, 0, 0])
        self.assertEqual(last(*MIX, cut(8)), [0, 0, 1, 3, 0, 0])

    def test_what_stands_behind_at_the_same_place_is_left_out(self):
        self.assertEqual(last(*MIX, cut(1)), [0, 1, 121, 5, 2, 0, 1, 1, 0, 0, 3, 0, 0, 1, 0, 1, 4, 0, 1])
        for node in [1, 2, 3, 4]:
            self.assertEqual(last(*ROW_OF_NONE, cut(node)), [0, 0, 1, 1, 0, 0])

    def test_24_bytes(self):
        text = list(range(97, 121))
        held = [load(LETTERS), hold(text, letters_tree(24))]
        self.assertEqual(last(*held, cut(0)), [0, 24] + text + [25] + letters_tree(24))
        self.assertEqual(last(*held, cut(1)), [0, 23] + text[1:] + [24] + letters_tree(23))
        self.assertEqual(last(*held, cut(24)), [0, 0, 1, 1, 0, 0])

    def test_500_nodes(self):
        self.assertEqual(last(*TALL, cut(0)), [0, 0, 500] + chain(500))
        self.assertEqual(last(*TALL, cut(1)), [0, 0, 499] + chain(499))
        self.assertEqual(last(*TALL, cut(499)), [0, 0, 1, 2, 0, 0])

    def test_held_tree_stays(self):
        told = behind(SUM, cut(2), cut(2), TEXT, TREE, UNDO)
        self.assertEqual(told[1:], [told[0], [0] + SUM_TEXT, [0, 5] + SUM_TREE, [-11]])


class Put(unittest.TestCase):
    def becomes(self, held, call, text, tree):
        nodes = len(tree) // 3
        self.assertEqual(behind(held, call, TEXT, TREE), [[0], [0] + text, [0, nodes] + tree], call)

    def test_longer_text(self):
        self.becomes(SUM, put(1, [98, 43, 99], [0, 0, 3, 1, 0, 1, 1, 2, 3]), [98, 43, 99, 43, 98, 43, 99],
                     [0, 0, 7, 0, 0, 3, 1, 0, 1, 1, 2, 3, 0, 4, 7, 1, 4, 5, 1, 6, 7])

    def test_longer_text_further_down(self):
        self.becomes(SUM, put(3, [99, 43, 97], [0, 0, 3, 1, 0, 1, 1, 2, 3]), [97, 43, 99, 43, 97, 43, 99],
                     [0, 0, 7, 1, 0, 1, 0, 2, 7, 0, 2, 5, 1, 2, 3, 1, 4, 5, 1, 6, 7])

    def test_shorter_text(self):
        self.becomes(SUM, put(2, [99], [1, 0, 1]), [97, 43, 99], [0, 0, 3, 1, 0, 1, 1, 2, 3])

    def test_text_of_the_same_length(self):
        self.becomes(SUM, put(3, [99], [1, 0, 1]), [97, 43, 99, 43, 99], SUM_TREE)

    def test_at_the_root(self):
        self.becomes(SUM, put(0, [98], [1, 0, 1]), [98], [1, 0, 1])
        self.becomes([load(SUMS), hold([98], [1, 0, 1])], put(0, SUM_TEXT, SUM_TREE), SUM_TEXT, SUM_TREE)

    def test_what_was_cut_out(self):
        for node in range(5):
            told = last(*SUM, cut(node))
            count = told[1]
            self.becomes(SUM, put(node, told[2:2 + count], told[3 + count:]), SUM_TEXT, SUM_TREE)

    def test_other_nonterminal_than_the_start(self):
        self.becomes(MIX, put(6, [], [3, 0, 0]), [121, 120],
                     [0, 0, 2, 2, 0, 1, 1, 0, 0, 3, 0, 0, 1, 0, 1, 4, 0, 1, 3, 2, 2, 1, 2, 2, 3, 2, 2])

    def test_between_nodes_without_bytes(self):
        for node in [1, 2, 3, 4]:
            tree = [0, 0, 1] + [1, 0, 0] * (node - 1) + [2, 0, 1] + [1, 1, 1] * (4 - node)
            self.becomes(ROW_OF_NONE, put(node, [97], [2, 0, 1]), [97], tree)

    def test_nothing_between_nodes_without_bytes(self):
        for node in [1, 2, 3, 4]:
            tree = [0, 0, 1] + [1, 0, 0] * (node - 1) + [2, 0, 1] + [1, 1, 1] * (4 - node)
            self.becomes([load(ROWS), hold([97], tree)], put(node, [], [1, 0, 0]), [], [0, 0, 0] + [1, 0, 0] * 4)

    def test_beside_nodes_that_stay_without_bytes(self):
        pair = [3, 0, 1, 1, 0, 0, 2, 0, 1]
        held = [load(ROWS), hold([97], [0, 0, 1, 1, 0, 0, 2, 0, 1, 1, 1, 1, 1, 1, 1])]
        self.becomes(held, put(1, [97], pair), [97, 97],
                     [0, 0, 2, 3, 0, 1, 1, 0, 0, 2, 0, 1, 2, 1, 2, 1, 2, 2, 1, 2, 2])
        self.becomes(held, put(3, [97], pair), [97, 97],
                     [0, 0, 2, 1, 0, 0, 2, 0, 1, 3, 1, 2, 1, 1, 1, 2, 1, 2, 1, 2, 2])
        self.becomes(held, put(4, [97], pair), [97, 97],
                     [0, 0, 2, 1, 0, 0, 2, 0, 1, 1, 1, 1, 3, 1, 2, 1, 1, 1, 2, 1, 2])

    def test_children_of_the_new_tree(self):
        told = behind(SUM, put(1, [98, 43, 99], [0, 0, 3, 1, 0, 1, 1, 2, 3]), kids(0), kids(1), kids(4), up(3), up(4),
                      up(6), path(6))
        self.assertEqual(told, [[0], [0, 1, 4], [0, 2, 3], [0, 5, 6], [0, 1, 1], [0, 1, 0], [0, 1, 4], [0, 1, 1]])

    def test_children_where_the_new_tree_has_fewer_nodes(self):
        other = [0, 0, 5, 0, 0, 3, 1, 0, 1, 1, 2, 3, 1, 4, 5]
        told = behind([load(SUMS), hold(SUM_TEXT, other)], put(1, [99], [1, 0, 1]), kids(0), kids(1), up(2), path(2))
        self.assertEqual(told, [[0], [0, 1, 2], [0], [0, 1, 0], [0, 1]])

    def test_new_tree_is_worked_on_like_a_held_one(self):
        told = behind(SUM, put(2, [99], [1, 0, 1]), put(1, [97, 43, 97], [0, 0, 3, 1, 0, 1, 1, 2, 3]), swap(1, 4), TEXT,
                      TREE)
        self.assertEqual(told, [[0], [0], [0], [0, 99, 43, 97, 43, 97],
                                [0, 5, 0, 0, 5, 1, 0, 1, 0, 2, 5, 1, 2, 3, 1, 4, 5]])

    def test_24_bytes_and_one_more(self):
        held = [load(LETTERS), hold([97] * 20, letters_tree(20))]
        self.becomes(held, put(20, [98] * 4, letters_tree(4)), [97] * 20 + [98] * 4, letters_tree(24))
        self.assertEqual(behind(held, put(20, [98] * 5, letters_tree(5)), TEXT), [[-3], [0] + [97] * 20])
        self.becomes(held, put(0, [98] * 24, letters_tree(24)), [98] * 24, letters_tree(24))
        self.becomes(held, put(1, [98] * 23, letters_tree(23)), [97] + [98] * 23, letters_tree(24))
        self.assertEqual(last(*held, put(1, [98] * 24, letters_tree(24))), [-3])

    def test_500_nodes_and_one_more(self):
        held = [load(EMPTIES), hold([], chain(499))]
        self.becomes(held, put(498, [], chain(2)), [], chain(500))
        self.assertEqual(behind(held, put(498, [], chain(3)), TREE), [[-8], [0, 499] + chain(499)])
        self.becomes(TALL, put(0, [], chain(500)), [], chain(500))
        self.becomes(TALL, put(1, [], chain(499)), [], chain(500))
        self.becomes(TALL, put(499, [], chain(1)), [], chain(500))
        self.assertEqual(last(*TALL, put(1, [], chain(500))), [-8])
        self.becomes(TALL, put(1, [], chain(1)), [], chain(2))

    def test_tree_of_another_nonterminal(self):
        # Of node 1 the nonterminal is 1, of nodes 3 and 6 it is 2, of the root 0.
        self.assertEqual(last(*MIX, put(1, [121], [4, 0, 1])), [-9])
        self.assertEqual(last(*MIX, put(3, [121], [1, 0, 1, 4, 0, 1])), [-9])
        self.assertEqual(last(*MIX, put(6, MIXED_TEXT, MIXED_TREE)), [-9])
        self.assertEqual(last(*MIX, put(0, [121], [1, 0, 1, 4, 0, 1])), [-9])
        self.assertEqual(last(*MIX, put(1, [121], [1, 0, 1, 4, 0, 1])), [0])
        self.assertEqual(last(*MIX, put(0, MIXED_TEXT, MIXED_TREE)), [0])

    def test_nodes_of_no_tree_over_the_whole_text(self):
        for octets, tree in [([97], []), ([], []), ([97], [0, 0, 1]), ([97], [2, 0, 1]), ([97], [10 ** 18, 0, 1]),
                             ([97], [1, 0, 2]), ([97], [1, 1, 2]), ([97, 98], [1, 0, 1]), ([100], [1, 0, 1]),
                             ([97], [1, 0, 1, 1, 0, 1]), (SUM_TEXT, SUM_TREE[:-3]), (SUM_TEXT[:-1], SUM_TREE)]:
            for node in range(5):
                self.assertEqual(last(*SUM, put(node, octets, tree)), [-9], (node, octets, tree))

    def test_places_are_those_of_the_new_text_by_itself(self):
        self.assertEqual(last(*SUM, put(2, [99], [1, 2, 3])), [-9])
        self.assertEqual(last(*SUM, put(2, [98, 43, 99], [0, 2, 5, 1, 2, 3, 1, 4, 5])), [-9])

    def test_order_of_its_own_refusals(self):
        held = [load(STEPS), hold([97] * 24, steps_tree(500, 24))]
        self.assertEqual(last(*held, put(499, [97], [1, 0, 1])), [-9])
        self.assertEqual(last(*held, put(499, [97], [1, 0, 1, 2, 1, 1])), [-3])
        self.assertEqual(last(*held, put(499, [], [0, 0, 0, 2, 0, 0])), [-8])
        self.assertEqual(last(*held, put(499, [], [2, 0, 0])), [0])
        self.assertEqual(last(*held, put(500, [97], [1, 0, 1, 2, 1, 1])), [-7])


class Swap(unittest.TestCase):
    def becomes(self, held, k, m, text, tree):
        nodes = len(tree) // 3
        for call in [swap(k, m), swap(m, k)]:
            self.assertEqual(behind(held, call, TEXT, TREE), [[0], [0] + text, [0, nodes] + tree], call)

    def test_pieces_of_different_lengths(self):
        self.becomes(SUM, 1, 2, [98, 43, 99, 43, 97], [0, 0, 5, 0, 0, 3, 1, 0, 1, 1, 2, 3, 1, 4, 5])

    def test_pieces_of_the_same_length(self):
        self.becomes(SUM, 1, 3, [98, 43, 97, 43, 99], SUM_TREE)
        self.becomes(SUM, 1, 4, [99, 43, 98, 43, 97], SUM_TREE)
        self.becomes(SUM, 3, 4, [97, 43, 99, 43, 98], SUM_TREE)

    def test_twice_is_as_it_was(self):
        told = behind(SUM, swap(1, 2), swap(1, 4), TEXT, TREE)
        self.assertEqual(told, [[0], [0], [0] + SUM_TEXT, [0, 5] + SUM_TREE])

    def test_nodes_of_different_heights_and_rules(self):
        self.becomes(MIX, 2, 7, MIXED_TEXT, MIXED_TREE)
        self.becomes(MIX, 4, 7, [120, 121, 121],
                     [0, 0, 3, 2, 0, 0, 1, 0, 0, 3, 0, 0, 1, 0, 0, 3, 0, 0, 4, 1, 2, 1, 2, 3, 4, 2, 3])
        self.becomes(MIX, 3, 6, [121, 121, 120],
                     [0, 0, 3, 2, 0, 2, 1, 0, 1, 4, 0, 1, 1, 1, 2, 4, 1, 2, 3, 3, 3, 1, 3, 3, 3, 3, 3])
        self.becomes(MIX, 1, 7, [120, 121, 121],
                     [0, 0, 3, 1, 0, 0, 3, 0, 0, 4, 1, 2, 2, 2, 3, 1, 2, 2, 3, 2, 2, 1, 2, 3, 4, 2, 3])

    def test_beside_nodes_without_bytes(self):
        def row(place):
            return [0, 0, 1] + [1, 0, 0] * (place - 1) + [2, 0, 1] + [1, 1, 1] * (4 - place)

        for one in [1, 2, 3, 4]:
            for other in [1, 2, 3, 4]:
                if one != other:
                    self.becomes([load(ROWS), hold([97], row(one))], one, other, [97], row(other))

    def test_two_nodes_without_bytes(self):
        pair = [3, 0, 0, 1, 0, 0, 1, 0, 0]
        held = [load(ROWS), hold([97], [0, 0, 1] + pair + [2, 0, 1] + [1, 1, 1] * 2)]
        tree = [0, 0, 1, 1, 0, 0, 2, 0, 1, 1, 1, 1, 3, 1, 1, 1, 1, 1, 1, 1, 1]
        self.becomes(held, 1, 6, [97], tree)
        self.assertEqual(behind(held, swap(1, 6), kids(0), kids(4), up(6)),
                         [[0], [0, 1, 2, 3, 4], [0, 5, 6], [0, 1, 4]])

    def test_children_behind_a_swap(self):
        told = behind(SUM, swap(1, 2), kids(0), kids(1), kids(4), up(3), up(4), path(3))
        self.assertEqual(told, [[0], [0, 1, 4], [0, 2, 3], [0], [0, 1, 1], [0, 1, 0], [0, 0, 1]])

    def test_24_bytes(self):
        row = grammar_row(2, [(0, [(1,), (43, 43), (1,)]), (1, [(97, 122), (1,)]), (1, [])])

        def ones(begin, end):
            return [number for place in range(begin, end) for number in [1, place, end]] + [2, end, end]

        held = [load(row), hold([97] * 3 + [43] + [98] * 20, [0, 0, 24] + ones(0, 3) + ones(4, 24))]
        self.becomes(held, 1, 5, [98] * 20 + [43] + [97] * 3, [0, 0, 24] + ones(0, 20) + ones(21, 24))
        # Node 4 has no bytes and stands behind the three a's: the b's go there, and none stay behind the +.
        self.becomes(held, 4, 5, [97] * 3 + [98] * 20 + [43], [0, 0, 24] + ones(0, 23) + ones(24, 24))

    def test_500_nodes(self):
        held = [load(EMPTIES), hold([], [1, 0, 0] + chain(400) + chain(99))]
        self.becomes(held, 1, 401, [], [1, 0, 0] + chain(99) + chain(400))
        self.becomes(held, 400, 401, [], [1, 0, 0] + chain(498) + chain(1))

    def test_same_node(self):
        for node in range(5):
            self.assertEqual(last(*SUM, swap(node, node)), [-10])

    def test_one_beneath_the_other(self):
        for above, beneath in [(0, 1), (0, 2), (0, 3), (0, 4), (2, 3), (2, 4)]:
            self.assertEqual(last(*SUM, swap(above, beneath)), [-10])
            self.assertEqual(last(*SUM, swap(beneath, above)), [-10])
        self.assertEqual(last(*TALL, swap(0, 499)), [-10])
        self.assertEqual(last(*TALL, swap(499, 1)), [-10])

    def test_different_nonterminals(self):
        for one, other in [(1, 6), (2, 5), (3, 7), (5, 7), (6, 7), (2, 6)]:
            self.assertEqual(last(*MIX, swap(one, other)), [-10], (one, other))
            self.assertEqual(last(*MIX, swap(other, one)), [-10], (other, one))

    def test_refused_one_leaves_the_held_one(self):
        told = behind(SUM, swap(0, 1), swap(2, 2), swap(5, 5), TEXT, TREE, UNDO)
        self.assertEqual(told, [[-10], [-10], [-7], [0] + SUM_TEXT, [0, 5] + SUM_TREE, [-11]])


if __name__ == "__main__":
    unittest.main()
