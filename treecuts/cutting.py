"""Trees cut out, replaced and swapped: what comes of it is another tree, and the first one stays as it was."""

from treecuts.trees import Node, Tree, number_behind


def moved(nodes, distance):
    return [Node(node.rule, node.begin + distance, node.end + distance) for node in nodes]


def cut_out(tree, number):
    """The tree at a node, by itself."""
    root = tree.nodes[number]
    behind = number_behind(tree, number)
    nodes = moved(tree.nodes[number:behind], -root.begin)
    parents = [None] + [parent - number for parent in tree.parents[number + 1:behind]]
    return Tree(tree.octets[root.begin:root.end], nodes, parents)


def nodes_ahead(tree, number, longer):
    """The nodes told ahead of a node whose piece gets longer; of these, the ones above it get longer too."""
    nodes = tree.nodes[:number]
    above = tree.parents[number]
    while above is not None:
        node = nodes[above]
        nodes[above] = Node(node.rule, node.begin, node.end + longer)
        above = tree.parents[above]
    return nodes


def parents_with(tree, number, part):
    """For each node its parent's number, once the part stands in the place of the tree at a node."""
    behind = number_behind(tree, number)
    more = len(part.nodes) - (behind - number)
    # The part's root has the parent that the node had, so that one is taken over too.
    parents = tree.parents[:number + 1]
    parents.extend([parent + number for parent in part.parents[1:]])
    parents.extend([parent if parent < number else parent + more for parent in tree.parents[behind:]])
    return parents


def replaced(tree, number, part):
    """The tree in which the part, a tree over a text of its own, stands in the place of the tree at a node."""
    root = tree.nodes[number]
    longer = len(part.octets) - (root.end - root.begin)
    octets = tree.octets[:root.begin] + part.octets + tree.octets[root.end:]
    nodes = nodes_ahead(tree, number, longer) + moved(part.nodes, root.begin)
    # By their numbers and not by their places: a node without bytes may begin where the piece begins or ends.
    nodes.extend(moved(tree.nodes[number_behind(tree, number):], longer))
    return Tree(octets, nodes, parents_with(tree, number, part))


def swapped(tree, one, other):
    """The tree in which the trees at two nodes, neither beneath the other, have changed places."""
    first = min(one, other)
    second = max(one, other)
    # The second goes first: what is replaced there leaves the numbers ahead of it as they are.
    changed = replaced(tree, second, cut_out(tree, first))
    return replaced(changed, first, cut_out(tree, second))
