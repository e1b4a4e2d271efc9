"""The calls on one object, and their answers."""

from treecuts.grammar import HIGHEST_BYTE, START, read_grammar
from treecuts.reading import read_tree
from treecuts.refusals import NoSuchNode, NoSuchRule, NoTreeHeld, NotSuchTree, NumberRefused, Refusal, TooManyBytes
from treecuts.rows import Reader
from treecuts.trees import Node, beneath_rule, children, nodes_of_rule

MOST_BYTES = 24
MOST_NODES = 500


class Desk:
    """What the calls work on: the rules of a grammar, and perhaps a tree of its start over a text."""

    def __init__(self):
        self.rules = []
        self.tree = None


def check_none_below_zero(numbers):
    if min(numbers, default=0) < 0:
        raise NumberRefused()


def check_text_with_tree(octets, numbers):
    """The refusals that come ahead of all others where a text is handed in with a tree."""
    check_none_below_zero(octets)
    if max(octets, default=0) > HIGHEST_BYTE:
        raise NumberRefused()
    check_none_below_zero(numbers)
    if len(octets) > MOST_BYTES:
        raise TooManyBytes()
    check_node_count(numbers)


def check_node_count(numbers):
    if len(numbers) % 3 != 0 or len(numbers) > 3 * MOST_NODES:
        raise NotSuchTree()


def nodes_told(numbers):
    return [Node(numbers[k], numbers[k + 1], numbers[k + 2]) for k in range(0, len(numbers), 3)]


def check_rule(desk, rule):
    if rule < 0 or rule >= len(desk.rules):
        raise NoSuchRule()


def held_tree(desk):
    if desk.tree is None:
        raise NoTreeHeld()
    return desk.tree


def check_node(held, number):
    if number < 0 or number >= len(held.nodes):
        raise NoSuchNode()


def load(desk, arguments):
    row = arguments[0]
    check_none_below_zero(row)
    desk.rules = read_grammar(row)
    desk.tree = None
    return []


def hold(desk, arguments):
    octets = arguments[0]
    numbers = arguments[1]
    check_text_with_tree(octets, numbers)
    desk.tree = read_tree(desk.rules, START, octets, nodes_told(numbers))
    return []


def tell_tree(desk, arguments):
    held = held_tree(desk)
    told = [len(held.nodes)]
    for node in held.nodes:
        told.extend([node.rule, node.begin, node.end])
    return told


def tell_text(desk, arguments):
    return held_tree(desk).octets


def tell_kids(desk, arguments):
    held = held_tree(desk)
    check_node(held, arguments[0])
    return children(held, arguments[0])


def tell_up(desk, arguments):
    held = held_tree(desk)
    check_node(held, arguments[0])
    parent = held.parents[arguments[0]]
    if parent is None:
        return [0]
    return [1, parent]


def tell_piece(desk, arguments):
    held = held_tree(desk)
    check_node(held, arguments[0])
    node = held.nodes[arguments[0]]
    return [node.begin, node.end] + held.octets[node.begin:node.end]


def tell_of(desk, arguments):
    check_rule(desk, arguments[0])
    return nodes_of_rule(held_tree(desk), arguments[0])


def tell_under(desk, arguments):
    check_rule(desk, arguments[0])
    check_rule(desk, arguments[1])
    held = held_tree(desk)
    beneath = beneath_rule(held, arguments[0])
    return [number for number in nodes_of_rule(held, arguments[1]) if beneath[number]]


# By a call's number: what answers it, how many whole numbers it has, and how many rows behind them.
CALLS = {
    0: (load, 0, 1),
    1: (hold, 0, 2),
    2: (tell_tree, 0, 0),
    3: (tell_text, 0, 0),
    4: (tell_kids, 1, 0),
    5: (tell_up, 1, 0),
    6: (tell_piece, 1, 0),
    7: (tell_of, 1, 0),
    8: (tell_under, 2, 0),
}


def read_arguments(reader, singles, rows):
    arguments = []
    for turn in range(singles):
        arguments.append(reader.take())
    for turn in range(rows):
        arguments.append(reader.take_row())
    return arguments


def answer_call(desk, reader):
    call = CALLS[reader.take()]
    # Read before anything can be refused: the next call begins behind all arguments of this one.
    arguments = read_arguments(reader, call[1], call[2])
    try:
        return [0] + call[0](desk, arguments)
    except Refusal as refusal:
        return [refusal.number]


def answers(calls):
    """The answers to the calls on one new object, each with how many numbers it has before it."""
    desk = Desk()
    reader = Reader(calls)
    told = []
    while not reader.at_end():
        answer = answer_call(desk, reader)
        told.append(len(answer))
        told.extend(answer)
    return told
