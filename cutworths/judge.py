"""The judge of certificates: whether what they claim of a tree's worth stands."""

from cutworths.checks import is_couple, is_sequence, is_whole
from cutworths.errors import BadWhich
from cutworths.lattices import gathered, is_worth

_KINDS = ("floor", "ceiling")


def check_which(which):
    """Return the kind of a bound, or raise BadWhich."""
    if which not in _KINDS:
        raise BadWhich(which)
    return which


def neutral_bound(lattice, which):
    """Return the bound of this kind that every worth reaches."""
    return lattice.bottom if which == "floor" else lattice.top


def is_reached(lattice, which, bound, worth):
    """Return whether a worth reaches a bound of this kind."""
    return lattice.at_most(bound, worth) if which == "floor" else lattice.at_most(worth, bound)


def children_at(tree, node):
    """Return the numbers of the nodes right beneath a node, none for a leaf."""
    return () if tree.is_leaf(node) else tree.nodes[node][1]


def _has_form(lattice, part):
    """Return whether a part is a worth beside couples."""
    if not is_couple(part) or not is_worth(lattice, part[0]):
        return False
    return is_sequence(part[1]) and all([is_couple(couple) for couple in part[1]])


def _names_children(couples, many):
    """Return whether couples name children of so many, ascending without duplicates."""
    before = -1
    for child, _ in couples:
        if not is_whole(child, before + 1, many - 1):
            return False
        before = child
    return True


def _form_fault(lattice, tree, part, node, road):
    """Return the road and the word of the first part at or beneath a node whose form is wrong, or None."""
    if not _has_form(lattice, part):
        return (road, "form")
    children = children_at(tree, node)
    if not _names_children(part[1], len(children)):
        return (road, "child")
    for child, inner in part[1]:
        fault = _form_fault(lattice, tree, inner, children[child], road + (child,))
        if fault is not None:
            return fault
    return None


def shown_by(lattice, tree, node, which, bounds):
    """Return what is shown of a node by the bounds of the children named, a dict; the others are neutral."""
    if tree.is_leaf(node):
        return tree.nodes[node]
    sign, children = tree.nodes[node]
    neutral = neutral_bound(lattice, which)
    return gathered(lattice, sign, [bounds.get(at, neutral) for at in range(len(children))])


def _bound_fault(lattice, tree, part, node, road, which):
    """Return the road and the word of the first part at or beneath a node whose bound is not reached, or None."""
    bound, couples = part
    bounds = {child: inner[0] for child, inner in couples}
    if not is_reached(lattice, which, bound, shown_by(lattice, tree, node, which, bounds)):
        return (road, "bound")
    for child, inner in couples:
        fault = _bound_fault(lattice, tree, inner, children_at(tree, node)[child], road + (child,), which)
        if fault is not None:
            return fault
    return None


def judge_certificate(lattice, tree, certificate, which):
    """Return None if the certificate stands at the root, else the road and the word of its first fault."""
    check_which(which)
    fault = _form_fault(lattice, tree, certificate, 0, ())
    if fault is not None:
        return fault
    return _bound_fault(lattice, tree, certificate, 0, (), which)


def judge_both(lattice, tree, floor, ceiling, worth):
    """Return whether a floor and a ceiling stand and are both this worth."""
    if judge_certificate(lattice, tree, floor, "floor") is not None:
        return False
    if judge_certificate(lattice, tree, ceiling, "ceiling") is not None:
        return False
    return is_worth(lattice, worth) and floor[0] == worth and ceiling[0] == worth
