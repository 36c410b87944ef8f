"""Leaves that hang from the left, and what shows that one does or does not."""

from cutworths.checks import is_sequence_of
from cutworths.contexts import is_hanging
from cutworths.lattices import is_worth, taken_in
from cutworths.trees import worths_over
from cutworths.ways import check_leaf, context_along, neutral_row, steps_down, way_by, way_to


class Doubt:
    """Two rows of worths that differ at one leaf, and the plain worths for them."""

    def __init__(self, low, high, low_worth, high_worth):
        self.low = low
        self.high = high
        self.low_worth = low_worth
        self.high_worth = high_worth

    def __eq__(self, other):
        return (isinstance(other, Doubt) and self.low == other.low and self.high == other.high
                and self.low_worth == other.low_worth and self.high_worth == other.high_worth)


class Passing:
    """The beginning of a leaf's way behind which it does not hang, and the context there."""

    def __init__(self, way, context):
        self.way = way
        self.context = context

    def __eq__(self, other):
        return isinstance(other, Passing) and self.way == other.way and self.context == other.context


def _led_up(lattice, way, worth):
    """Return the plain worth of a root if the leaf at the end of this way has this worth and is the last one."""
    for sign, so_far in reversed(way):
        worth = taken_in(lattice, sign, so_far, worth)
    return worth


def _end_worths(lattice, way):
    """Return the plain worths for bottom and for top at the leaf at the end of this way."""
    return (_led_up(lattice, way, lattice.bottom), _led_up(lattice, way, lattice.top))


def hanging_leaves(lattice, tree):
    """Return the leaves that hang from the left, ascending."""
    steps = steps_down(lattice, tree)
    found = []
    for leaf in range(len(tree)):
        low_worth, high_worth = _end_worths(lattice, way_by(tree, steps, leaf))
        if low_worth != high_worth:
            found.append(leaf)
    return tuple(found)


def doubt_at(lattice, tree, leaf):
    """Return what shows that a leaf hangs from the left, None if it does not, or raise NoLeaf."""
    low_worth, high_worth = _end_worths(lattice, way_to(lattice, tree, leaf))
    if low_worth == high_worth:
        return None
    row = neutral_row(lattice, tree, leaf)
    low = row[:leaf] + (lattice.bottom,) + row[leaf + 1:]
    high = row[:leaf] + (lattice.top,) + row[leaf + 1:]
    return Doubt(low, high, low_worth, high_worth)


def _is_row(lattice, tree, thing):
    """Return whether the thing is a sequence of a worth for each leaf."""
    return is_sequence_of(thing, len(tree), len(tree)) and all([is_worth(lattice, worth) for worth in thing])


def _is_told(lattice, tree, row, worth):
    """Return whether this is the plain worth for a row."""
    return is_worth(lattice, worth) and worth == worths_over(lattice, tree, row)[0]


def doubt_fault(lattice, tree, leaf, doubt):
    """Return the first word for what is wrong with a doubt of a leaf, None if nothing is, or raise NoLeaf."""
    check_leaf(tree, leaf)
    if not _is_row(lattice, tree, doubt.low):
        return "low"
    if not _is_row(lattice, tree, doubt.high):
        return "high"
    low, high = tuple(doubt.low), tuple(doubt.high)
    if low[:leaf] != tree.worths[:leaf] or high[:leaf] != tree.worths[:leaf]:
        return "left"
    if low[:leaf] + low[leaf + 1:] != high[:leaf] + high[leaf + 1:]:
        return "other"
    if not _is_told(lattice, tree, low, doubt.low_worth):
        return "low worth"
    if not _is_told(lattice, tree, high, doubt.high_worth):
        return "high worth"
    return "same" if doubt.low_worth == doubt.high_worth else None


def why_passed(lattice, tree, leaf):
    """Return the shortest beginning of a leaf's way that no longer hangs, None if there is none, or raise NoLeaf."""
    way = way_to(lattice, tree, leaf)
    for length in range(len(way) + 1):
        context = context_along(lattice, way[:length])
        if not is_hanging(lattice, context):
            return Passing(way[:length], context)
    return None
