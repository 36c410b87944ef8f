"""Grounds: what an engine searches, a tree or a game."""

from cutworths.checks import is_sequence, is_whole
from cutworths.ends import end_of, end_worth, next_positions
from cutworths.errors import NoRoad
from cutworths.lattices import gathered
from cutworths.positions import sign_at, start_of


class TreeGround:
    """A tree from one of its nodes on; its nodes are node numbers."""

    def __init__(self, tree, start=0):
        self.tree = tree
        self.start = start

    def root_node(self):
        """Return the node from which the ground goes on."""
        return self.start

    def is_end(self, node):
        """Return whether a node is a leaf."""
        return self.tree.is_leaf(node)

    def end_told(self, node):
        """Return the worth of a leaf."""
        return self.tree.nodes[node]

    def sign_of(self, node):
        """Return the sign of an inner node."""
        return self.tree.nodes[node][0]

    def children_of(self, node):
        """Return the children of an inner node in order."""
        return self.tree.nodes[node][1]

    def key_of(self, node):
        """Return None: no memory knows the nodes of a tree."""
        return None

    def ground_at(self, node):
        """Return the ground from this node on."""
        return TreeGround(self.tree, node)


class GameGround:
    """A game from a position on; its nodes are positions."""

    def __init__(self, rules, position=None):
        self.rules = rules
        self.position = start_of(rules) if position is None else position

    def root_node(self):
        """Return the position from which the ground goes on."""
        return self.position

    def is_end(self, node):
        """Return whether a position is over."""
        return end_of(self.rules, node) is not None

    def end_told(self, node):
        """Return the end worth of a position that is over."""
        return end_worth(self.rules, node)

    def sign_of(self, node):
        """Return the sign of an open position."""
        return sign_at(node)

    def children_of(self, node):
        """Return the next positions in order."""
        return next_positions(self.rules, node)

    def key_of(self, node):
        """Return the position by which a memory knows a node."""
        return node

    def ground_at(self, node):
        """Return the ground from this position on."""
        return GameGround(self.rules, node)


def ground_node(ground, road):
    """Return the node to which a road leads, or raise NoRoad."""
    if not is_sequence(road):
        raise NoRoad(road)
    node = ground.root_node()
    for at in road:
        children = () if ground.is_end(node) else ground.children_of(node)
        if not is_whole(at, 0, len(children) - 1):
            raise NoRoad(road)
        node = children[at]
    return node


def told_by(lattice, ground, node, known):
    """Return the plain worth of a node; known holds those worked out before, and gets the new ones."""
    if node not in known:
        if ground.is_end(node):
            known[node] = ground.end_told(node)
        else:
            worths = [told_by(lattice, ground, child, known) for child in ground.children_of(node)]
            known[node] = gathered(lattice, ground.sign_of(node), worths)
    return known[node]


def plain_told(lattice, ground, node):
    """Return the plain worth of a node."""
    return told_by(lattice, ground, node, {})
