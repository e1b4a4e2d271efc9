"""Reading a tree: whether nodes, in the order in which they are told, are those of a tree over a text."""

from treecuts.grammar import NONTERMINAL, RANGE
from treecuts.refusals import NotSuchTree
from treecuts.trees import Tree

# What may be awaited besides the symbols of a rule.
NODE_END = 2


class Reading:
    """How far a text and its nodes have been followed.

    What is still awaited stands in a row, the next thing last. A tree may be 500 nodes high, so it is
    followed by a loop over this row and not by calls within one another.
    """

    def __init__(self, rules, octets, nodes):
        self.rules = rules
        self.octets = octets
        self.nodes = nodes
        self.parents = []
        self.place = 0
        self.awaited = []

    def await_tree(self, nonterminal, parent):
        self.awaited.append((NONTERMINAL, nonterminal, parent))

    def follow(self):
        due = self.awaited.pop()
        if due[0] == NONTERMINAL:
            self.begin_node(due[1], due[2])
        elif due[0] == RANGE:
            self.pass_byte(due[1], due[2])
        else:
            self.end_node(due[1])

    def begin_node(self, nonterminal, parent):
        number = len(self.parents)
        if number == len(self.nodes):
            raise NotSuchTree()
        node = self.nodes[number]
        if node.begin != self.place or node.rule >= len(self.rules):
            raise NotSuchTree()
        rule = self.rules[node.rule]
        if rule.nonterminal != nonterminal:
            raise NotSuchTree()
        self.parents.append(parent)
        self.await_symbols(rule.symbols, number)

    def await_symbols(self, symbols, number):
        self.awaited.append((NODE_END, number))
        for symbol in reversed(symbols):
            if symbol[0] == NONTERMINAL:
                self.await_tree(symbol[1], number)
            else:
                self.awaited.append(symbol)

    def pass_byte(self, low, high):
        if self.place == len(self.octets):
            raise NotSuchTree()
        if self.octets[self.place] < low or self.octets[self.place] > high:
            raise NotSuchTree()
        self.place += 1

    def end_node(self, number):
        if self.nodes[number].end != self.place:
            raise NotSuchTree()


def read_tree(rules, nonterminal, octets, nodes):
    """The tree of the nonterminal over the whole text that has just these nodes; there is at most one."""
    reading = Reading(rules, octets, nodes)
    reading.await_tree(nonterminal, None)
    while len(reading.awaited) > 0:
        reading.follow()
    if reading.place != len(octets) or len(reading.parents) != len(nodes):
        raise NotSuchTree()
    return Tree(octets, nodes, reading.parents)
