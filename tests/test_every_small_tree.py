"""Promises 5 and 8 to 14 for every small tree of two grammars, against trees that stand within one another.

Here a tree is (rule, items), an item a byte or a tree; where it stands and what number it has is told anew
each time, so that nothing has to be moved.
"""

import itertools
import unittest

from tests.helper import (TEXT, TREE, UNDO, at, behind, compare, cut, grammar_row, hold, kids, load, measure, path, put,
                          swap, trees_by_the_words)

PAIRS = [(0, [(0,), (0,)]), (0, [(97, 98)]), (0, [])]
MIXED = [(0, [(1,), (97, 97), (1,)]), (0, [(1,), (1,), (1,)]), (1, []), (1, [(97, 98)]), (1, [(0,)])]


def grown(rules, nodes, text):
    """The tree that these nodes tell over the text."""
    rest = list(nodes)
    octets = list(text)

    def grow():
        rule = rest.pop(0)[0]
        return (rule, [grow() if len(symbol) == 1 else octets.pop(0) for symbol in rules[rule][1]])

    tree = grow()
    assert rest == [] and octets == []
    return tree


def told(tree, begin=0):
    """The tree's text, and its nodes in the order in which they are told."""
    octets = []
    nodes = []
    for item in tree[1]:
        if isinstance(item, tuple):
            part = told(item, begin + len(octets))
            octets += part[0]
            nodes += part[1]
        else:
            octets.append(item)
    return octets, [(tree[0], begin, begin + len(octets))] + nodes


def below(tree):
    return [item for item in tree[1] if isinstance(item, tuple)]


def paths(tree):
    """The paths to all nodes, in the order of their numbers."""
    found = [()]
    for place, child in enumerate(below(tree)):
        found += [(place,) + steps for steps in paths(child)]
    return found


def reached(tree, steps):
    for step in steps:
        tree = below(tree)[step]
    return tree


def with_part(tree, steps, part):
    """The tree with the part where the path leads."""
    if not steps:
        return part
    items = list(tree[1])
    place = [number for number, item in enumerate(items) if isinstance(item, tuple)][steps[0]]
    items[place] = with_part(items[place], steps[1:], part)
    return (tree[0], items)


def height(tree):
    return 1 + max([height(child) for child in below(tree)], default=0)


def row_of(nodes):
    return [number for node in nodes for number in node]


def small_trees(rules, nonterminal, texts, most):
    return [grown(rules, nodes, text) for text in texts
            for nodes in trees_by_the_words(rules, nonterminal, text, 0, len(text), most)]


class EverySmallTree(unittest.TestCase):
    def held(self, rules, tree):
        octets, nodes = told(tree)
        row = grammar_row(1 + max(owner for owner, symbols in rules), rules)
        return [load(row), hold(octets, row_of(nodes))]

    def answers_of(self, tree):
        octets, nodes = told(tree)
        return [[0] + octets, [0, len(nodes)] + row_of(nodes)]

    def each(self, check):
        """Goes through the trees of both grammars, and what may be put into them."""
        texts = [[], [97], [98, 97]]
        for rules, most in [(PAIRS, 7), (MIXED, 8)]:
            parts = small_trees(rules, 0, texts, 4) + small_trees(rules, 1, texts, 4)
            trees = small_trees(rules, 0, texts, most)
            self.assertGreater(len(trees), 70)
            for tree in trees:
                check(rules, tree, parts)

    def test_asking(self):
        def check(rules, tree, parts):
            ways = paths(tree)
            for number, steps in enumerate(ways):
                part = reached(tree, steps)
                octets, nodes = told(part)
                children = [ways.index(steps + (place,)) for place in range(len(below(part)))]
                self.assertEqual(
                    behind(self.held(rules, tree), cut(number), measure(number), path(number), kids(number)),
                    [[0, len(octets)] + octets + [len(nodes)] + row_of(nodes), [0, len(nodes), height(part)],
                     [0, *steps], [0] + children], (tree, number))

        self.each(check)

    def test_at(self):
        every = [steps for count in range(4) for steps in itertools.product(range(4), repeat=count)]

        def check(rules, tree, parts):
            ways = paths(tree)
            expected = [[0, 1, ways.index(steps)] if steps in ways else [0, 0] for steps in every]
            self.assertEqual(behind(self.held(rules, tree), *[at(list(steps)) for steps in every]), expected, tree)

        self.each(check)

    def test_put(self):
        def check(rules, tree, parts):
            before = self.answers_of(tree)
            ways = paths(tree)
            for (number, steps), part in itertools.product(enumerate(ways), parts):
                octets, nodes = told(part)
                call = put(number, octets, row_of(nodes))
                if rules[reached(tree, steps)[0]][0] == rules[part[0]][0]:
                    new = with_part(tree, steps, part)
                    expected = [[0]] + self.answers_of(new) + [[0, *paths(new)[-1]], [0]] + before
                    calls = [call, TEXT, TREE, path(len(paths(new)) - 1), UNDO, TEXT, TREE]
                else:
                    expected = [[-9]] + before + [[-11]]
                    calls = [call, TEXT, TREE, UNDO]
                self.assertEqual(behind(self.held(rules, tree), *calls), expected, (tree, number, part))

        self.each(check)

    def test_swap(self):
        def check(rules, tree, parts):
            before = self.answers_of(tree)
            for (k, one), (m, other) in itertools.product(enumerate(paths(tree)), repeat=2):
                first = reached(tree, one)
                second = reached(tree, other)
                common = min(len(one), len(other))
                calls = [swap(k, m), TEXT, TREE, UNDO]
                if one[:common] == other[:common] or rules[first[0]][0] != rules[second[0]][0]:
                    expected = [[-10]] + before + [[-11]]
                else:
                    new = with_part(with_part(tree, one, second), other, first)
                    calls += [TEXT, TREE, swap(k, m)] + [path(number) for number in range(len(paths(new)))]
                    expected = [[0]] + self.answers_of(new) + [[0]] + before + [[0]]
                    expected += [[0, *steps] for steps in paths(new)]
                self.assertEqual(behind(self.held(rules, tree), *calls), expected, (tree, k, m))

        self.each(check)

    def test_compare(self):
        for rules, text in itertools.product([PAIRS, MIXED], [[], [97], [98, 97]]):
            trees = small_trees(rules, 0, [text], 7)
            for tree in trees:
                nodes = told(tree)[1]
                others = [told(other)[1] for other in trees]
                for other in others:
                    pairs = itertools.zip_longest(nodes, other)
                    differing = [number for number, (one, two) in enumerate(pairs) if one != two]
                    expected = [0, 1, differing[0]] if differing else [0, 0]
                    self.assertEqual(behind(self.held(rules, tree), compare(row_of(other))), [expected], (nodes, other))


if __name__ == "__main__":
    unittest.main()
