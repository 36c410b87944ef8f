"""Bars: small games on which the search by contexts errs where the lattice is not distributive."""

from cutworths.checks import is_sign
from cutworths.contexts import child_context, is_hanging, root_context
from cutworths.cutting import cut_search, parent_search
from cutworths.errors import BadRoot, NotAShape
from cutworths.lattices import neutral_worth, taken_in
from cutworths.shapes import Pentagon, find_shape, is_distributive, is_shape
from cutworths.trees import Tree, plain_worth


class Wrong:
    """What a search tells of a tree, what the tree is worth, and the leaves that were not asked."""

    def __init__(self, told, worth, passed):
        self.told = told
        self.worth = worth
        self.passed = passed

    def __eq__(self, other):
        return (isinstance(other, Wrong) and self.told == other.told and self.worth == other.worth
                and self.passed == other.passed)


def _check_root(root):
    """Raise BadRoot if this is no sign of a root."""
    if not is_sign(root):
        raise BadRoot(root)


def _middle_of(shape, root):
    """Return the three middle worths of a shape in the order in which a bar with this root has them."""
    if not isinstance(shape, Pentagon):
        return (shape.first, shape.second, shape.third)
    if root == "meets":
        return (shape.greater, shape.lesser, shape.aside)
    return (shape.lesser, shape.greater, shape.aside)


def bar_tree(lattice, shape, root):
    """Return the tree made of the worths of a pentagon or diamond, or raise NotAShape or BadRoot."""
    if not is_shape(lattice, shape):
        raise NotAShape()
    _check_root(root)
    p, q, r = _middle_of(shape, root)
    if root == "meets":
        return Tree(("meets", (p, ("joins", (q, ("meets", (r, shape.low)))))))
    return Tree(("joins", (p, ("meets", (q, ("joins", (r, ("meets", (p, shape.low)))))))))


def bar_game(lattice, root="meets"):
    """Return the tree that bars the cut in this lattice, None in a distributive one, or raise BadRoot."""
    _check_root(root)
    shape = find_shape(lattice)
    return None if shape is None else bar_tree(lattice, shape, root)


def wrong_cut(lattice, tree):
    """Return how the search by contexts errs on a tree, or None."""
    found = cut_search(lattice, tree)
    worth = plain_worth(lattice, tree)
    if found.worth == worth:
        return None
    asked = {leaf: True for leaf in found.asked}
    return Wrong(found.worth, worth, tuple([leaf for leaf in range(len(tree)) if leaf not in asked]))


def _fill_row(lattice, tree, node, own, row):
    """Put a worth for each leaf at or beneath a node that is gone into in the row, and return what is told of it."""
    if tree.is_leaf(node):
        row.append(tree.nodes[node])
        return tree.nodes[node]
    sign, children = tree.nodes[node]
    so_far = neutral_worth(lattice, sign)
    for child in children:
        inner = child_context(lattice, sign, own, so_far)
        if is_hanging(lattice, inner):
            so_far = taken_in(lattice, sign, so_far, _fill_row(lattice, tree, child, inner, row))
        else:
            first, last = tree.leaves_under(child)
            row.extend([neutral_worth(lattice, sign)] * (last + 1 - first))
    return so_far


def told_row(lattice, tree):
    """Return a row of worths for which the tree is worth what the search by contexts tells."""
    own = root_context(lattice)
    if not is_hanging(lattice, own):
        return (lattice.bottom,) * len(tree)
    row = []
    _fill_row(lattice, tree, 0, own, row)
    return tuple(row)


def guarded_search(lattice, tree):
    """Search by contexts where that is right, by the parent alone elsewhere."""
    return cut_search(lattice, tree) if is_distributive(lattice) else parent_search(lattice, tree)
