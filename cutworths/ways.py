"""Ways: what lies to the left of a road at each node on it, and the contexts that come of it."""

from cutworths.checks import is_couple, is_sequence, is_sign, is_whole
from cutworths.contexts import child_context, context_or_root
from cutworths.errors import BadWay, NoLeaf
from cutworths.lattices import is_worth, neutral_worth, taken_in
from cutworths.trees import node_worths


def check_leaf(tree, leaf):
    """Raise NoLeaf if the tree has no such leaf."""
    if not is_whole(leaf, 0, len(tree) - 1):
        raise NoLeaf(leaf)


def context_along(lattice, way, context=None):
    """Return the context at the end of a way that begins in the context, the root context for None."""
    if not is_sequence(way):
        raise BadWay(-1)
    for index, item in enumerate(way):
        if not is_couple(item) or not is_sign(item[0]) or not is_worth(lattice, item[1]):
            raise BadWay(index)
    along = context_or_root(lattice, context)
    for sign, so_far in way:
        along = child_context(lattice, sign, along, so_far)
    return along


def steps_down(lattice, tree):
    """Return for each node but the root its parent's sign and what is so far there ahead of the node."""
    worths = node_worths(lattice, tree)
    steps = [None] * len(worths)
    for number, node in enumerate(tree.nodes):
        if not tree.is_leaf(number):
            sign, children = node
            so_far = neutral_worth(lattice, sign)
            for child in children:
                steps[child] = (sign, so_far)
                so_far = taken_in(lattice, sign, so_far, worths[child])
    return steps


def way_by(tree, steps, leaf):
    """Return the way of a leaf by the steps into all nodes."""
    way = []
    node = tree.leaves[leaf]
    while node != 0:
        way.append(steps[node])
        node = tree.parents[node]
    return tuple(way[::-1])


def way_to(lattice, tree, leaf):
    """Return the way of a leaf, or raise NoLeaf."""
    check_leaf(tree, leaf)
    return way_by(tree, steps_down(lattice, tree), leaf)


def leaf_context(lattice, tree, leaf):
    """Return the context along the way of a leaf, or raise NoLeaf."""
    return context_along(lattice, way_to(lattice, tree, leaf))


def neutral_row(lattice, tree, leaf):
    """Return the worths up to a leaf and, to its right, those that change nothing, or raise NoLeaf."""
    check_leaf(tree, leaf)
    row = list(tree.worths[:leaf + 1])
    node = tree.leaves[leaf]
    while node != 0:
        node = tree.parents[node]
        _, last = tree.leaves_under(node)
        row.extend([neutral_worth(lattice, tree.nodes[node][0])] * (last + 1 - len(row)))
    return tuple(row)
