"""Calls written as lists of numbers, and their answers parted again."""

from treecuts.desk import answers

TREE = [2]
TEXT = [3]

# 0 -> 0 + 0 and 0 -> a to c, the grammar of the document's example, and its text with a tree.
SUMS = [1, 2, 0, 3, 0, 0, 1, 43, 43, 0, 0, 0, 1, 1, 97, 99]
SUM_TEXT = [97, 43, 98, 43, 99]
SUM_TREE = [0, 0, 5, 1, 0, 1, 0, 2, 5, 1, 2, 3, 1, 4, 5]

# 0 -> 0, 0 -> 0 0 and 0 -> no symbols: trees of every height and width over the empty text.
EMPTIES = [1, 3, 0, 1, 0, 0, 0, 2, 0, 0, 0, 0, 0, 0]


def load(row):
    return [0, len(row)] + row


def hold(octets, tree):
    return [1, len(octets)] + octets + [len(tree)] + tree


def kids(k):
    return [4, k]


def up(k):
    return [5, k]


def piece(k):
    return [6, k]


def of(r):
    return [7, r]


def under(r, s):
    return [8, r, s]


def grammar_row(nonterminals, rules):
    """A grammar row from (nonterminal, symbols) pairs; a symbol is (nonterminal,) or (lo, hi)."""
    row = [nonterminals, len(rules)]
    for nonterminal, symbols in rules:
        row += [nonterminal, len(symbols)]
        for symbol in symbols:
            row += [0, *symbol] if len(symbol) == 1 else [1, *symbol]
    return row


def chain(nodes):
    """A tree of EMPTIES in which each node is the one child of the node before it."""
    return [0, 0, 0] * (nodes - 1) + [2, 0, 0]


def part(told):
    """The single answers out of what is given back."""
    parted = []
    place = 0
    while place < len(told):
        count = told[place]
        parted.append(told[place + 1:place + 1 + count])
        place += 1 + count
    assert place == len(told), "a count is wrong"
    return parted


def ask(*calls):
    """The answers to these calls, a list for each."""
    line = [number for call in calls for number in call]
    return part(answers(line))


def last(*calls):
    """The answer to the last of these calls."""
    parted = ask(*calls)
    assert len(parted) == len(calls), "not one answer for each call"
    return parted[-1]
