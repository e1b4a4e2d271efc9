"""The calls on one object, and their answers."""

from treecuts.cutting import cut_out, replaced, swapped
from treecuts.grammar import HIGHEST_BYTE, START, read_grammar
from treecuts.reading import read_tree
from treecuts.refusals import NoSuchNode, NoSuchRule, NoTreeBefore, NoTreeHeld, NotSuchTree, NotToBeSwapped
from treecuts.refusals import NumberRefused, Refusal, TooManyBytes, TooManyNodes
from treecuts.rows import Reader
from treecuts.trees import Node, beneath_rule, children, first_difference, node_at, nodes_of_rule
from treecuts.trees import nodes_on_longest_way, number_behind, path_to, stands_beneath

MOST_BYTES = 24
MOST_NODES = 500
MOST_BEFORE = 16


class Desk:
    """What the calls work on: the rules of a grammar, perhaps a tree of its start over a text, and those before.

    A text stands in its tree, so the trees before, the latest first, are all that undo needs.
    """

    def __init__(self):
        self.rules = []
        self.tree = None
        self.before = []

    def begin_with(self, tree):
        self.tree = tree
        self.before = []

    def change_to(self, tree):
        self.before = [self.tree] + self.before[:MOST_BEFORE - 1]
        self.tree = tree

    def go_back(self):
        if len(self.before) == 0:
            raise NoTreeBefore()
        self.tree = self.before.pop(0)


def check_none_below_zero(numbers):
    if min(numbers, default=0) < 0:
        raise NumberRefused()


def check_text_with_tree(octets, numbers):
    """The refusals that come ahead of all others where a text is handed in with a tree."""
    check_none_below_zero(octets)
    if max(octets, default=0) > HIGHEST_BYTE:
        raise NumberRefused()
    check_none_below_zero(numbers)
    if len(octets) > MOST_BYTES:
        raise TooManyBytes()
    check_node_count(numbers)


def check_node_count(numbers):
    if len(numbers) % 3 != 0 or len(numbers) > 3 * MOST_NODES:
        raise NotSuchTree()


def nodes_told(numbers):
    return [Node(numbers[k], numbers[k + 1], numbers[k + 2]) for k in range(0, len(numbers), 3)]


def tell_nodes(nodes):
    """How many nodes there are, and three numbers for each."""
    told = [len(nodes)]
    for node in nodes:
        told.extend([node.rule, node.begin, node.end])
    return told


def tell_found(number):
    """1 and a number where there is one, else 0."""
    if number is None:
        return [0]
    return [1, number]


def check_rule(desk, rule):
    if rule < 0 or rule >= len(desk.rules):
        raise NoSuchRule()


def held_tree(desk):
    if desk.tree is None:
        raise NoTreeHeld()
    return desk.tree


def check_node(held, number):
    if number < 0 or number >= len(held.nodes):
        raise NoSuchNode()


def held_tree_with(desk, number):
    """The held tree, which has a node of this number."""
    held = held_tree(desk)
    check_node(held, number)
    return held


def nonterminal_of(desk, number):
    return desk.rules[desk.tree.nodes[number].rule].nonterminal


def check_size(tree):
    if len(tree.octets) > MOST_BYTES:
        raise TooManyBytes()
    if len(tree.nodes) > MOST_NODES:
        raise TooManyNodes()


def check_swap(desk, one, other):
    if one == other or stands_beneath(desk.tree, one, other) or stands_beneath(desk.tree, other, one):
        raise NotToBeSwapped()
    if nonterminal_of(desk, one) != nonterminal_of(desk, other):
        raise NotToBeSwapped()


def load(desk, arguments):
    row = arguments[0]
    check_none_below_zero(row)
    desk.rules = read_grammar(row)
    desk.begin_with(None)
    return []


def hold(desk, arguments):
    octets = arguments[0]
    numbers = arguments[1]
    check_text_with_tree(octets, numbers)
    desk.begin_with(read_tree(desk.rules, START, octets, nodes_told(numbers)))
    return []


def tell_tree(desk, arguments):
    return tell_nodes(held_tree(desk).nodes)


def tell_text(desk, arguments):
    return held_tree(desk).octets


def tell_kids(desk, arguments):
    return children(held_tree_with(desk, arguments[0]), arguments[0])


def tell_up(desk, arguments):
    held = held_tree_with(desk, arguments[0])
    return tell_found(held.parents[arguments[0]])


def tell_piece(desk, arguments):
    held = held_tree_with(desk, arguments[0])
    node = held.nodes[arguments[0]]
    return [node.begin, node.end] + held.octets[node.begin:node.end]


def tell_of(desk, arguments):
    check_rule(desk, arguments[0])
    return nodes_of_rule(held_tree(desk), arguments[0])


def tell_under(desk, arguments):
    check_rule(desk, arguments[0])
    check_rule(desk, arguments[1])
    held = held_tree(desk)
    beneath = beneath_rule(held, arguments[0])
    return [number for number in nodes_of_rule(held, arguments[1]) if beneath[number]]


def tell_cut(desk, arguments):
    part = cut_out(held_tree_with(desk, arguments[0]), arguments[0])
    return [len(part.octets)] + part.octets + tell_nodes(part.nodes)


def put(desk, arguments):
    number = arguments[0]
    octets = arguments[1]
    numbers = arguments[2]
    check_text_with_tree(octets, numbers)
    held = held_tree_with(desk, number)
    part = read_tree(desk.rules, nonterminal_of(desk, number), octets, nodes_told(numbers))
    changed = replaced(held, number, part)
    check_size(changed)
    desk.change_to(changed)
    return []


def swap(desk, arguments):
    held = held_tree_with(desk, arguments[0])
    check_node(held, arguments[1])
    check_swap(desk, arguments[0], arguments[1])
    desk.change_to(swapped(held, arguments[0], arguments[1]))
    return []


def tell_difference(desk, arguments):
    numbers = arguments[0]
    check_none_below_zero(numbers)
    check_node_count(numbers)
    held = held_tree(desk)
    other = read_tree(desk.rules, START, held.octets, nodes_told(numbers))
    return tell_found(first_difference(held, other))


def tell_path(desk, arguments):
    return path_to(held_tree_with(desk, arguments[0]), arguments[0])


def tell_node_at(desk, arguments):
    check_none_below_zero(arguments[0])
    return tell_found(node_at(held_tree(desk), arguments[0]))


def tell_measure(desk, arguments):
    held = held_tree_with(desk, arguments[0])
    return [number_behind(held, arguments[0]) - arguments[0], nodes_on_longest_way(held, arguments[0])]


def undo(desk, arguments):
    desk.go_back()
    return []


# By a call's number: what answers it, how many whole numbers it has, and how many rows behind them.
CALLS = {
    0: (load, 0, 1),
    1: (hold, 0, 2),
    2: (tell_tree, 0, 0),
    3: (tell_text, 0, 0),
    4: (tell_kids, 1, 0),
    5: (tell_up, 1, 0),
    6: (tell_piece, 1, 0),
    7: (tell_of, 1, 0),
    8: (tell_under, 2, 0),
    9: (tell_cut, 1, 0),
    10: (put, 1, 2),
    11: (swap, 2, 0),
    12: (tell_difference, 0, 1),
    13: (tell_path, 1, 0),
    14: (tell_node_at, 0, 1),
    15: (tell_measure, 1, 0),
    16: (undo, 0, 0),
}


def read_arguments(reader, singles, rows):
    arguments = []
    for turn in range(singles):
        arguments.append(reader.take())
    for turn in range(rows):
        arguments.append(reader.take_row())
    return arguments


def answer_call(desk, reader):
    call = CALLS[reader.take()]
    # Read before anything can be refused: the next call begins behind all arguments of this one.
    arguments = read_arguments(reader, call[1], call[2])
    try:
        return [0] + call[0](desk, arguments)
    except Refusal as refusal:
        return [refusal.number]


def answers(calls):
    """The answers to the calls on one new object, each with how many numbers it has before it."""
    desk = Desk()
    reader = Reader(calls)
    told = []
    while not reader.at_end():
        answer = answer_call(desk, reader)
        told.append(len(answer))
        told.extend(answer)
    return told
