"""Calls written as lists of numbers, and their answers parted again."""

from treecuts.desk import answers

TREE = [2]
TEXT = [3]
UNDO = [16]

# 0 -> 0 + 0 and 0 -> a to c, the grammar of the document's example, and its text with a tree.
SUMS = [1, 2, 0, 3, 0, 0, 1, 43, 43, 0, 0, 0, 1, 1, 97, 99]
SUM_TEXT = [97, 43, 98, 43, 99]
SUM_TREE = [0, 0, 5, 1, 0, 1, 0, 2, 5, 1, 2, 3, 1, 4, 5]

# 0 -> 0, 0 -> 0 0 and 0 -> no symbols: trees of every height and width over the empty text.
EMPTIES = [1, 3, 0, 1, 0, 0, 0, 2, 0, 0, 0, 0, 0, 0]


def load(row):
    return [0, len(row)] + row


def hold(octets, tree):
    return [1, len(octets)] + octets + [len(tree)] + tree


def kids(k):
    return [4, k]


def up(k):
    return [5, k]


def piece(k):
    return [6, k]


def of(r):
    return [7, r]


def under(r, s):
    return [8, r, s]


def cut(k):
    return [9, k]


def put(k, octets, tree):
    return [10, k, len(octets)] + octets + [len(tree)] + tree


def swap(k, m):
    return [11, k, m]


def compare(tree):
    return [12, len(tree)] + tree


def path(k):
    return [13, k]


def at(steps):
    return [14, len(steps)] + steps


def measure(k):
    return [15, k]


def grammar_row(nonterminals, rules):
    """A grammar row from (nonterminal, symbols) pairs; a symbol is (nonterminal,) or (lo, hi)."""
    row = [nonterminals, len(rules)]
    for nonterminal, symbols in rules:
        row += [nonterminal, len(symbols)]
        for symbol in symbols:
            row += [0, *symbol] if len(symbol) == 1 else [1, *symbol]
    return row


def chain(nodes):
    """A tree of EMPTIES in which each node is the one child of the node before it."""
    return [0, 0, 0] * (nodes - 1) + [2, 0, 0]


def letters_tree(count):
    """The tree of LETTERS over so many letters."""
    tree = []
    for place in range(count):
        tree += [0, place, count]
    return tree + [1, count, count]


# 0 -> a to z, then 0; 0 -> no symbols.
LETTERS = grammar_row(1, [(0, [(97, 122), (0,)]), (0, [])])

# 0 -> 1 x 2 1, 1 -> 2, 1 -> 1 1, 2 -> no symbols, 2 -> y: children of several nonterminals, with a byte between.
MIXED = grammar_row(3, [(0, [(1,), (120, 120), (2,), (1,)]), (1, [(2,)]), (1, [(1,), (1,)]), (2, []),
                        (2, [(121, 121)])])
MIXED_TEXT = [121, 120, 121]
MIXED_TREE = [0, 0, 3,
              2, 0, 1,
              1, 0, 0, 3, 0, 0,
              1, 0, 1, 4, 0, 1,
              4, 2, 3,
              1, 3, 3, 3, 3, 3]

# Each loads a grammar and holds a text with its tree.
SUM = [load(SUMS), hold(SUM_TEXT, SUM_TREE)]
MIX = [load(MIXED), hold(MIXED_TEXT, MIXED_TREE)]
TALL = [load(EMPTIES), hold([], chain(500))]


def part(told):
    """The single answers out of what is given back."""
    parted = []
    place = 0
    while place < len(told):
        count = told[place]
        parted.append(told[place + 1:place + 1 + count])
        place += 1 + count
    assert place == len(told), "a count is wrong"
    return parted


def ask(*calls):
    """The answers to these calls, a list for each."""
    line = [number for call in calls for number in call]
    return part(answers(line))


def behind(held, *calls):
    """The answers to the calls behind these first ones, which are to be taken."""
    told = ask(*held, *calls)
    assert told[:len(held)] == [[0]] * len(held), "not held"
    return told[len(held):]


def last(*calls):
    """The answer to the last of these calls."""
    parted = ask(*calls)
    assert len(parted) == len(calls), "not one answer for each call"
    return parted[-1]


def trees_by_the_words(rules, nonterminal, text, begin, end, most):
    """All trees of the nonterminal over the piece with at most so many nodes, by the document's words."""
    found = []
    for number, (owner, symbols) in enumerate(rules):
        if owner == nonterminal and most > 0:
            for beneath in rows_by_the_words(rules, symbols, text, begin, end, most - 1):
                found.append(((number, begin, end),) + beneath)
    return found


def rows_by_the_words(rules, symbols, text, begin, end, most):
    if not symbols:
        return [()] if begin == end else []
    found = []
    for middle in range(begin, end + 1):
        for first in symbol_by_the_words(rules, symbols[0], text, begin, middle, most):
            for others in rows_by_the_words(rules, symbols[1:], text, middle, end, most - len(first)):
                found.append(first + others)
    return found


def symbol_by_the_words(rules, symbol, text, begin, end, most):
    if len(symbol) == 1:
        return trees_by_the_words(rules, symbol[0], text, begin, end, most)
    covered = end - begin == 1 and symbol[0] <= text[begin] <= symbol[1]
    return [()] if covered else []
