"""Lots of leaves that are enough to know the root's worth."""

from cutworths.askers import Asking, settle_above
from cutworths.checks import is_sequence, is_whole
from cutworths.errors import BadLot, NotEnough, TooMany
from cutworths.trees import worths_over

_MOST_LEAVES = 10


class Within:
    """The leaves that were asked among some, and whether they were the whole that had to be asked."""

    def __init__(self, asked, whole):
        self.asked = asked
        self.whole = whole

    def __eq__(self, other):
        return isinstance(other, Within) and self.asked == other.asked and self.whole == other.whole


def _check_leaves(tree, leaves):
    """Raise BadLot for the first item that is no leaf of the tree."""
    if not is_sequence(leaves):
        raise BadLot(-1)
    for index, leaf in enumerate(leaves):
        if not is_whole(leaf, 0, len(tree) - 1):
            raise BadLot(index)


def check_lot(tree, lot):
    """Return the lot as an ascending tuple of unlike leaves, or raise BadLot."""
    _check_leaves(tree, lot)
    return tuple(sorted(set(lot)))


def _worths_with(lattice, tree, lot, unknown):
    """Return the worths of all nodes if the leaves outside a checked lot have the worth unknown."""
    row = [unknown] * len(tree)
    for leaf in lot:
        row[leaf] = tree.worths[leaf]
    return worths_over(lattice, tree, row)


def _bounds_with(lattice, tree, lot):
    """Return the low and the high of the root if exactly the leaves of a checked lot are known."""
    return (_worths_with(lattice, tree, lot, lattice.bottom)[0], _worths_with(lattice, tree, lot, lattice.top)[0])


def lot_bounds(lattice, tree, lot):
    """Return the low and the high of the root if exactly the lot's leaves are known."""
    return _bounds_with(lattice, tree, check_lot(tree, lot))


def is_enough(lattice, tree, lot):
    """Return whether the lot's leaves fix the root's worth."""
    low, high = lot_bounds(lattice, tree, lot)
    return low == high


def _put_in(lattice, tree, worths, leaf, worth):
    """Give a leaf another worth, and the nodes above it with it."""
    node = tree.leaves[leaf]
    worths[node] = worth
    settle_above(lattice, tree, worths, node)


def irreducible_lot(lattice, tree, lot):
    """Return what is left of a lot behind each leaf that can be left out, or raise BadLot or NotEnough."""
    checked = check_lot(tree, lot)
    lows = _worths_with(lattice, tree, checked, lattice.bottom)
    highs = _worths_with(lattice, tree, checked, lattice.top)
    if lows[0] != highs[0]:
        raise NotEnough()
    kept = []
    for leaf in reversed(checked):
        _put_in(lattice, tree, lows, leaf, lattice.bottom)
        _put_in(lattice, tree, highs, leaf, lattice.top)
        if lows[0] != highs[0]:
            _put_in(lattice, tree, lows, leaf, tree.worths[leaf])
            _put_in(lattice, tree, highs, leaf, tree.worths[leaf])
            kept.append(leaf)
    return tuple(kept[::-1])


def _all_lots(many):
    """Return all lots of so many leaves, those with fewer leaves first, those of one size ascending."""
    lots = [()]
    for leaf in range(many):
        lots = lots + [lot + (leaf,) for lot in lots]
    return sorted(sorted(lots), key=len)


def _holds(lot, other):
    """Return whether the lot holds all leaves of the other one."""
    return all([leaf in lot for leaf in other])


def least_enough(lattice, tree):
    """Return all irreducible lots, those with fewer leaves first, or raise TooMany."""
    if len(tree) > _MOST_LEAVES:
        raise TooMany(_MOST_LEAVES)
    found = []
    for lot in _all_lots(len(tree)):
        if not any([_holds(lot, smaller) for smaller in found]):
            low, high = _bounds_with(lattice, tree, lot)
            if low == high:
                found.append(lot)
    return tuple(found)


def lot_asked(lattice, tree, order):
    """Ask the leaves that hang when their turn in this order comes, or raise BadLot."""
    _check_leaves(tree, order)
    asking = Asking(lattice, tree)
    for leaf in order:
        if asking.kept_at(leaf) is None and asking.is_hanging_leaf(leaf):
            asking.ask_leaf(leaf)
    return Within(asking.asked, asking.is_done)
