"""Certificates: what shows that a tree's worth is at least, or at most, some bound."""

from cutworths.enough import check_lot
from cutworths.judge import check_which, children_at, is_reached, neutral_bound, shown_by
from cutworths.lattices import check_worth, neutral_worth, taken_in


def _nodes_over(tree, lot):
    """Return the nodes at or beneath which some leaf of the lot lies, as keys."""
    nodes = {}
    for leaf in lot:
        node = tree.leaves[leaf]
        while node is not None and node not in nodes:
            nodes[node] = True
            node = tree.parents[node]
    return nodes


def _part_from(lattice, tree, nodes, node, which):
    """Return the part for a node that names its children among these nodes."""
    children = children_at(tree, node)
    parts = [(at, _part_from(lattice, tree, nodes, child, which))
             for at, child in enumerate(children) if child in nodes]
    bounds = {at: part[0] for at, part in parts}
    return (shown_by(lattice, tree, node, which, bounds), tuple(parts))


def certificate_from(lattice, tree, lot, which):
    """Return the certificate that a lot of leaves gives, or raise BadLot or BadWhich."""
    checked = check_lot(tree, lot)
    check_which(which)
    if len(checked) == 0:
        return (neutral_bound(lattice, which), ())
    return _part_from(lattice, tree, _nodes_over(tree, checked), 0, which)


def both_from(lattice, tree, lot):
    """Return the floor and the ceiling certificate that a lot of leaves gives, or raise BadLot."""
    return (certificate_from(lattice, tree, lot, "floor"), certificate_from(lattice, tree, lot, "ceiling"))


def leaves_named(tree, part, node, neutral):
    """Return the leaves at whose place a part has another bound than the neutral one, ascending."""
    bound, couples = part
    if tree.is_leaf(node):
        return () if bound == neutral else (tree.leaves_under(node)[0],)
    found = []
    for child, inner in couples:
        found.extend(leaves_named(tree, inner, children_at(tree, node)[child], neutral))
    return tuple(found)


def cited_leaves(lattice, tree, certificate, which):
    """Return the leaves that a certificate of the right form cites, or raise BadWhich."""
    return leaves_named(tree, certificate, 0, neutral_bound(lattice, check_which(which)))


def _keep_shorter(lots, bound, lot):
    """Keep the lot for this bound if it has none yet with as few leaves."""
    if bound not in lots or len(lot) < len(lots[bound]):
        lots[bound] = lot


def _shortest_lots(lattice, tree, node, which):
    """Return for each bound that some lot of leaves gives a node a shortest such lot."""
    lots = {}
    if tree.is_leaf(node):
        _keep_shorter(lots, neutral_bound(lattice, which), ())
        _keep_shorter(lots, tree.nodes[node], tree.leaves_under(node)[:1])
        return lots
    sign, children = tree.nodes[node]
    lots[neutral_worth(lattice, sign)] = ()
    for child in children:
        inner = _shortest_lots(lattice, tree, child, which)
        # What is gathered of the children hangs on their bounds alone, so one lot for each bound is enough.
        longer = {}
        for bound in lots:
            for other in inner:
                _keep_shorter(longer, taken_in(lattice, sign, bound, other), lots[bound] + inner[other])
        lots = longer
    return lots


def fewest_certificate(lattice, tree, bound, which):
    """Return a certificate of this bound that cites fewest leaves, None if none stands, or raise."""
    check_worth(lattice, bound)
    check_which(which)
    lots = _shortest_lots(lattice, tree, 0, which)
    reaching = [lots[shown] for shown in lots if is_reached(lattice, which, bound, shown)]
    if len(reaching) == 0:
        return None
    lot = sorted(reaching, key=len)[0]
    return (bound, certificate_from(lattice, tree, lot, which)[1])
