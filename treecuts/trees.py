"""Trees over their texts, and what can be asked of their nodes by number."""


class Node:
    """A rule's number, and the places where the node's piece begins and ends."""

    def __init__(self, rule, begin, end):
        self.rule = rule
        self.begin = begin
        self.end = end


class Tree:
    """A text, the nodes of a tree over all of it as trees are told, and for each node its parent's number.

    The root's parent is None; every other parent has a lower number than its child. A tree and its nodes
    are not changed once they are made, so that trees may share nodes.
    """

    def __init__(self, octets, nodes, parents):
        self.octets = octets
        self.nodes = nodes
        self.parents = parents


def children(tree, number):
    return [child for child, parent in enumerate(tree.parents) if parent == number]


def nodes_of_rule(tree, rule):
    return [number for number, node in enumerate(tree.nodes) if node.rule == rule]


def beneath_rule(tree, rule):
    """For each node, whether it stands beneath a node of this rule."""
    beneath = []
    for parent in tree.parents:
        if parent is None:
            beneath.append(False)
        else:
            beneath.append(beneath[parent] or tree.nodes[parent].rule == rule)
    return beneath


def number_behind(tree, number):
    """The number that follows those of the tree at a node; what stands beneath the node is told right behind it."""
    behind = number + 1
    while behind < len(tree.nodes) and tree.parents[behind] >= number:
        behind += 1
    return behind


def stands_beneath(tree, lower, upper):
    return upper < lower and lower < number_behind(tree, upper)


def nodes_on_longest_way(tree, number):
    """How many nodes stand on the longest way down from a node, with the node itself."""
    depths = [1]
    for parent in tree.parents[number + 1:number_behind(tree, number)]:
        depths.append(depths[parent - number] + 1)
    return max(depths)


def child_places(tree):
    """For each node, which child of its parent it is; the root is gone to by no path, and has None."""
    counts = [0 for node in tree.nodes]
    places = []
    for parent in tree.parents:
        if parent is None:
            places.append(None)
        else:
            places.append(counts[parent])
            counts[parent] += 1
    return places


def path_to(tree, number):
    places = child_places(tree)
    path = []
    while tree.parents[number] is not None:
        path.append(places[number])
        number = tree.parents[number]
    path.reverse()
    return path


def node_at(tree, path):
    """The number of the node to which the path leads, or None if a child isn't there."""
    number = 0
    for step in path:
        below = children(tree, number)
        if step >= len(below):
            return None
        number = below[step]
    return number


def same_node(one, other):
    return one.rule == other.rule and one.begin == other.begin and one.end == other.end


def first_difference(one, other):
    """The number of the first node in which the trees differ, or None if they are the same."""
    common = min(len(one.nodes), len(other.nodes))
    for number in range(common):
        if not same_node(one.nodes[number], other.nodes[number]):
            return number
    if len(one.nodes) == len(other.nodes):
        return None
    return common
