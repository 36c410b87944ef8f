"""Trees of joining and meeting nodes over leaves, and what they are worth."""

from cutworths.checks import is_couple, is_sequence, is_sequence_of, is_sign, is_whole
from cutworths.ends import end_worth, next_positions
from cutworths.errors import BadFilling, BadTree, NoNode, NoRoad, TooMany
from cutworths.lattices import gathered
from cutworths.positions import sign_at

_MOST_LEAVES = 4000
_MOST_ABOVE = 40
_GREATEST_WORTH = 15


def _node_fault(thing, above, ahead):
    """Return the word for what is wrong with a node below so many nodes, behind so many leaves, or None."""
    if above > _MOST_ABOVE:
        return "deep"
    if isinstance(thing, int) and not isinstance(thing, bool):
        if not is_whole(thing, 0, _GREATEST_WORTH):
            return "worth"
        return "many" if ahead == _MOST_LEAVES else None
    if not is_couple(thing):
        return "node"
    if not is_sign(thing[0]):
        return "sign"
    if not is_sequence(thing[1]) or len(thing[1]) == 0:
        return "children"
    return None


def _laid_out(shape):
    """Return the nodes and the roads to them in the order of the numbers, or raise BadTree."""
    signs, beneath, roads = [], [], []
    ahead = 0
    waiting = [(shape, (), None)]
    while waiting:
        thing, road, parent = waiting.pop()
        fault = _node_fault(thing, len(road), ahead)
        if fault is not None:
            raise BadTree(fault, road)
        number = len(roads)
        roads.append(road)
        beneath.append([])
        if parent is not None:
            beneath[parent].append(number)
        if is_sequence(thing):
            signs.append(thing[0])
            children = [(child, road + (at,), number) for at, child in enumerate(thing[1])]
            waiting.extend(children[::-1])
        else:
            signs.append(thing)
            ahead += 1
    nodes = [(first, tuple(numbers)) if numbers else first for first, numbers in zip(signs, beneath)]
    return nodes, roads


def _parents_of(nodes):
    """Return the number of each node's parent, None for the root."""
    parents = [None] * len(nodes)
    for number, node in enumerate(nodes):
        if is_sequence(node):
            for child in node[1]:
                parents[child] = number
    return tuple(parents)


def _first_and_last(nodes):
    """Return the first and the last leaf at or beneath each node."""
    bounds = [None] * len(nodes)
    leaf = len([node for node in nodes if not is_sequence(node)])
    for number in reversed(range(len(nodes))):
        if is_sequence(nodes[number]):
            children = nodes[number][1]
            bounds[number] = (bounds[children[0]][0], bounds[children[-1]][1])
        else:
            leaf -= 1
            bounds[number] = (leaf, leaf)
    return tuple(bounds)


def _shape_of(nodes):
    """Return the shape that nodes in the order of their numbers have."""
    shapes = list(nodes)
    for number in reversed(range(len(nodes))):
        if is_sequence(nodes[number]):
            sign, children = nodes[number]
            shapes[number] = (sign, tuple([shapes[child] for child in children]))
    return shapes[0]


class Tree:
    """A tree by its shape, with its nodes and leaves numbered."""

    def __init__(self, shape):
        nodes, roads = _laid_out(shape)
        self.nodes = tuple(nodes)
        self.shape = _shape_of(nodes)
        self.parents = _parents_of(nodes)
        self.leaves = tuple([number for number, node in enumerate(nodes) if not is_sequence(node)])
        self.worths = tuple([nodes[number] for number in self.leaves])
        self._roads = tuple(roads)
        self._leaf_bounds = _first_and_last(nodes)

    def __eq__(self, other):
        return isinstance(other, Tree) and self.shape == other.shape

    def __len__(self):
        return len(self.leaves)

    @property
    def tree_depth(self):
        """The greatest number of inner nodes above a leaf."""
        return max([len(road) for road in self._roads])

    def _check_node(self, node):
        """Raise NoNode if this is no node's number."""
        if not is_whole(node, 0, len(self.nodes) - 1):
            raise NoNode(node)

    def road_of(self, node):
        """Return the road to a node."""
        self._check_node(node)
        return self._roads[node]

    def node_at(self, road):
        """Return the number of the node to which a road leads, or raise NoRoad."""
        if not is_sequence(road):
            raise NoRoad(road)
        node = 0
        for at in road:
            if self.is_leaf(node) or not is_whole(at, 0, len(self.nodes[node][1]) - 1):
                raise NoRoad(road)
            node = self.nodes[node][1][at]
        return node

    def is_leaf(self, node):
        """Return whether a node is a leaf."""
        self._check_node(node)
        return not is_sequence(self.nodes[node])

    def leaves_under(self, node):
        """Return the couple of the first and the last leaf at or beneath a node."""
        self._check_node(node)
        return self._leaf_bounds[node]


def worths_over(lattice, tree, row):
    """Return the plain worths of all nodes if the leaves have the worths of this row, as a list."""
    worths = [None] * len(tree.nodes)
    for leaf, worth in zip(tree.leaves, row):
        worths[leaf] = worth
    for number in reversed(range(len(worths))):
        if worths[number] is None:
            sign, children = tree.nodes[number]
            worths[number] = gathered(lattice, sign, [worths[child] for child in children])
    return worths


def node_worths(lattice, tree):
    """Return the plain worths of all nodes."""
    return tuple(worths_over(lattice, tree, tree.worths))


def plain_worth(lattice, tree):
    """Return the plain worth of the root."""
    return worths_over(lattice, tree, tree.worths)[0]


def refilled_tree(tree, worths):
    """Return the tree of the same form with these worths at the leaves, or raise BadFilling."""
    if not is_sequence_of(worths, len(tree), len(tree)):
        raise BadFilling()
    if not all([is_whole(worth, 0, _GREATEST_WORTH) for worth in worths]):
        raise BadFilling()
    nodes = list(tree.nodes)
    for leaf, worth in zip(tree.leaves, worths):
        nodes[leaf] = worth
    return Tree(_shape_of(nodes))


def _turned_node(node):
    """Return the node with the other sign, a leaf as it is."""
    if not is_sequence(node):
        return node
    return ("meets" if node[0] == "joins" else "joins", node[1])


def turned_tree(tree):
    """Return the tree with the two signs exchanged everywhere."""
    return Tree(_shape_of([_turned_node(node) for node in tree.nodes]))


def subtree_at(tree, node):
    """Return the tree at and beneath a node, or raise NoNode."""
    shape = tree.shape
    for at in tree.road_of(node):
        shape = shape[1][at]
    return Tree(shape)


def _form_of(tree):
    """Return the nodes of a tree with None for each leaf."""
    return [node if is_sequence(node) else None for node in tree.nodes]


def same_shape(one, other):
    """Return whether two trees differ in nothing but the worths of their leaves."""
    return _form_of(one) == _form_of(other)


def _game_shape(rules, position, known):
    """Return the shape of a game and its number of leaves, by what is known of the positions reached."""
    if position not in known:
        worth = end_worth(rules, position)
        if worth is not None:
            known[position] = (worth, 1)
        else:
            shapes, leaves = [], 0
            for behind in next_positions(rules, position):
                shape, more = _game_shape(rules, behind, known)
                shapes.append(shape)
                leaves += more
                if leaves > _MOST_LEAVES:
                    raise TooMany(_MOST_LEAVES)
            known[position] = ((sign_at(position), tuple(shapes)), leaves)
    return known[position]


def tree_of(rules, position):
    """Return the tree of a game from a position on, or raise TooMany."""
    shape, _ = _game_shape(rules, position, {})
    return Tree(shape)
