"""Grammars, as the numbers of a grammar row tell them."""

from treecuts.refusals import NoGrammarRow
from treecuts.rows import Reader

MOST_NONTERMINALS = 20
MOST_RULES = 60
MOST_SYMBOLS = 8
HIGHEST_BYTE = 255

START = 0

# How a symbol begins, in a grammar row and in a rule's symbols alike.
NONTERMINAL = 0
RANGE = 1


class Rule:
    """A rule's nonterminal and its symbols: (NONTERMINAL, which) or (RANGE, lo, hi) each."""

    def __init__(self, nonterminal, symbols):
        self.nonterminal = nonterminal
        self.symbols = symbols


def take_within(reader, low, high):
    """Every number of a grammar row has its bounds; one that is missing or out of them spoils the row."""
    if reader.at_end():
        raise NoGrammarRow()
    number = reader.take()
    if number < low or number > high:
        raise NoGrammarRow()
    return number


def read_symbol(reader, nonterminals):
    kind = take_within(reader, NONTERMINAL, RANGE)
    if kind == NONTERMINAL:
        return (NONTERMINAL, take_within(reader, 0, nonterminals - 1))
    low = take_within(reader, 0, HIGHEST_BYTE)
    high = take_within(reader, low, HIGHEST_BYTE)
    return (RANGE, low, high)


def read_rule(reader, nonterminals):
    nonterminal = take_within(reader, 0, nonterminals - 1)
    count = take_within(reader, 0, MOST_SYMBOLS)
    symbols = []
    for turn in range(count):
        symbols.append(read_symbol(reader, nonterminals))
    return Rule(nonterminal, symbols)


def read_grammar(row):
    """The rules that the row tells; how many nonterminals there are matters to the row alone."""
    reader = Reader(row)
    nonterminals = take_within(reader, 1, MOST_NONTERMINALS)
    count = take_within(reader, 0, MOST_RULES)
    rules = []
    for turn in range(count):
        rules.append(read_rule(reader, nonterminals))
    if not reader.at_end():
        raise NoGrammarRow()
    return rules
