"""Trees over their texts, and what can be asked of their nodes by number."""


class Node:
    """A rule's number, and the places where the node's piece begins and ends."""

    def __init__(self, rule, begin, end):
        self.rule = rule
        self.begin = begin
        self.end = end


class Tree:
    """A text, the nodes of a tree over all of it as trees are told, and for each node its parent's number.

    The root's parent is None; every other parent has a lower number than its child.
    """

    def __init__(self, octets, nodes, parents):
        self.octets = octets
        self.nodes = nodes
        self.parents = parents


def children(tree, number):
    return [child for child, parent in enumerate(tree.parents) if parent == number]


def nodes_of_rule(tree, rule):
    return [number for number, node in enumerate(tree.nodes) if node.rule == rule]


def beneath_rule(tree, rule):
    """For each node, whether it stands beneath a node of this rule."""
    beneath = []
    for parent in tree.parents:
        if parent is None:
            beneath.append(False)
        else:
            beneath.append(beneath[parent] or tree.nodes[parent].rule == rule)
    return beneath
