"""Asking the leaves of a tree in any order."""

from cutworths.checks import picks_fault
from cutworths.contexts import child_context, is_hanging, root_context
from cutworths.errors import Again, BadPicks, Needless, NotDone
from cutworths.lattices import check_worth, gathered
from cutworths.ways import check_leaf


def settle_above(lattice, tree, worths, node):
    """Work out the worths of the nodes above a node anew, as far up as they change."""
    parent = tree.parents[node]
    while parent is not None:
        sign, children = tree.nodes[parent]
        told = gathered(lattice, sign, [worths[child] for child in children])
        if told == worths[parent]:
            return
        worths[parent] = told
        parent = tree.parents[parent]


def _others_by_worth(lattice, sign, worths):
    """Return for each worth among these what is gathered of the others where it is left out once."""
    unlike = sorted(set(worths))
    return {worth: gathered(lattice, sign, [other for other in unlike if other != worth or worths.count(other) > 1])
            for worth in unlike}


class Asking:
    """A tree whose leaves are asked in any order, with what is known of its nodes."""

    def __init__(self, lattice, tree):
        self.lattice = lattice
        self.tree = tree
        self.asked = ()
        self._kept = [None] * len(tree)
        self._lows = [lattice.bottom] * len(tree.nodes)
        self._highs = [lattice.top] * len(tree.nodes)
        bounds = [tree.leaves_under(node) for node in range(len(tree.nodes))]
        # How many leaves at or beneath each node have not been asked.
        self._left = [last + 1 - first for first, last in bounds]

    @property
    def is_done(self):
        """Whether no leaf that has not been asked hangs."""
        return len(self._first_hanging(1)) == 0

    def _bounds_of(self, sign):
        """Return the bounds of all nodes that tell what is so far at a node of this sign."""
        return self._lows if sign == "joins" else self._highs

    def _contexts_within(self, node, context):
        """Return the contexts of the children of an inner node by the bound that each child has."""
        sign, children = self.tree.nodes[node]
        bounds = self._bounds_of(sign)
        others = _others_by_worth(self.lattice, sign, [bounds[child] for child in children])
        return {bound: child_context(self.lattice, sign, context, others[bound]) for bound in others}

    def _first_hanging(self, most):
        """Return the first leaves that have not been asked and hang, at most so many."""
        found = []
        waiting = [(0, root_context(self.lattice))]
        while waiting and len(found) < most:
            node, context = waiting.pop()
            # No leaf hangs beneath a node that does not, nor where all have been asked.
            if self._left[node] == 0 or not is_hanging(self.lattice, context):
                continue
            if self.tree.is_leaf(node):
                found.append(self.tree.leaves_under(node)[0])
            else:
                sign, children = self.tree.nodes[node]
                bounds = self._bounds_of(sign)
                contexts = self._contexts_within(node, context)
                waiting.extend([(child, contexts[bounds[child]]) for child in children[::-1]])
        return found

    def hanging_now(self):
        """Return the leaves that have not been asked and hang, ascending."""
        return tuple(self._first_hanging(len(self.tree)))

    def leftmost_hanging(self):
        """Return the first leaf that has not been asked and hangs, or None."""
        found = self._first_hanging(1)
        return found[0] if found else None

    def bounds_at(self, road):
        """Return the low and the high of the node at a road, or raise NoRoad."""
        node = self.tree.node_at(road)
        return (self._lows[node], self._highs[node])

    def root_bounds(self):
        """Return the low and the high of the root."""
        return self.bounds_at(())

    def context_at(self, road):
        """Return the context of the node at a road, or raise NoRoad."""
        self.tree.node_at(road)
        node, context = 0, root_context(self.lattice)
        for at in road:
            sign, children = self.tree.nodes[node]
            contexts = self._contexts_within(node, context)
            node = children[at]
            context = contexts[self._bounds_of(sign)[node]]
        return context

    def kept_at(self, leaf):
        """Return the kept worth of a leaf, None if it has not been asked, or raise NoLeaf."""
        check_leaf(self.tree, leaf)
        return self._kept[leaf]

    def _keep(self, leaf, worth):
        """Keep the worth of a leaf, which counts as asked from now on."""
        self.asked = self.asked + (leaf,)
        self._kept[leaf] = worth
        node = self.tree.leaves[leaf]
        self._lows[node] = worth
        self._highs[node] = worth
        settle_above(self.lattice, self.tree, self._lows, node)
        settle_above(self.lattice, self.tree, self._highs, node)
        while node is not None:
            self._left[node] -= 1
            node = self.tree.parents[node]

    def is_hanging_leaf(self, leaf):
        """Return whether a leaf hangs, asked or not."""
        road = self.tree.road_of(self.tree.leaves[leaf])
        return is_hanging(self.lattice, self.context_at(road))

    def ask_leaf(self, leaf):
        """Ask a leaf and return its worth, or raise NoLeaf, Again or Needless."""
        check_leaf(self.tree, leaf)
        if self._kept[leaf] is not None:
            raise Again(leaf)
        if not self.is_hanging_leaf(leaf):
            raise Needless(leaf)
        self._keep(leaf, self.tree.worths[leaf])
        return self._kept[leaf]

    def note_leaf(self, leaf, worth):
        """Keep this worth for a leaf, or raise NoLeaf, NoWorth or Again."""
        check_leaf(self.tree, leaf)
        check_worth(self.lattice, worth)
        if self._kept[leaf] is not None:
            raise Again(leaf)
        self._keep(leaf, worth)

    def root_told(self):
        """Return the low of the root, or raise NotDone with the leaves that hang."""
        hanging = self.hanging_now()
        if hanging:
            raise NotDone(hanging)
        return self._lows[0]


def check_picks(picks):
    """Raise BadPicks for the first item that is no pick."""
    index = picks_fault(picks)
    if index is not None:
        raise BadPicks(index)


def run_asking(asking, picks):
    """Ask the hanging leaf that each pick names, return the leaves asked, or raise BadPicks."""
    check_picks(picks)
    asked = []
    for pick in picks:
        hanging = asking.hanging_now()
        if not hanging:
            break
        asked.append(hanging[pick % len(hanging)])
        asking.ask_leaf(asked[-1])
    return tuple(asked)


def finish_asking(asking):
    """Ask the leftmost hanging leaf until none is left, and return the leaves asked."""
    asked = []
    leaf = asking.leftmost_hanging()
    while leaf is not None:
        asking.ask_leaf(leaf)
        asked.append(leaf)
        leaf = asking.leftmost_hanging()
    return tuple(asked)
