"""Worlds: several trees, or games, of one form searched as one over the product of their lattices."""

from cutworths.checks import is_sequence, is_sequence_of, is_whole
from cutworths.errors import BadLead, BadWorlds, UnlikeRules
from cutworths.lattices import check_worth, is_worth
from cutworths.making import product_lattice
from cutworths.rules import Rules
from cutworths.trees import refilled_tree, same_shape

_GREATEST_WORTH = 15
_MOST_WORTHS = 16
_MOST_PARTS = 4


def led_along(row, tree):
    """Return the tree in which row[w] replaces each leaf's worth w, or raise BadLead."""
    if not is_sequence(row):
        raise BadLead("row", 0)
    for at, worth in enumerate(row):
        if not is_whole(worth, 0, _GREATEST_WORTH):
            raise BadLead("row", at)
    for leaf, worth in enumerate(tree.worths):
        if worth >= len(row):
            raise BadLead("leaf", leaf)
    return refilled_tree(tree, [row[worth] for worth in tree.worths])


def _check_wide(sizes):
    """Raise BadWorlds if there are too many rows of a number below each size."""
    rows = 1
    for size in sizes:
        rows = rows * size
    if rows > _MOST_WORTHS:
        raise BadWorlds("wide")


def _whole_of(sizes, row):
    """Return the number of a row among all rows of a number below each size, in their order as tuples."""
    whole = 0
    for size, number in zip(sizes, row):
        whole = whole * size + number
    return whole


class World:
    """Trees that differ in the worths of their leaves alone, each over its lattice, joined to one."""

    def __init__(self, lattices, trees):
        if not is_sequence_of(lattices, 1, _MOST_PARTS) or not is_sequence_of(trees, 1, _MOST_PARTS):
            raise BadWorlds("many")
        if len(lattices) != len(trees):
            raise BadWorlds("many")
        if not all([same_shape(trees[0], tree) for tree in trees]):
            raise BadWorlds("shape")
        sizes = [lattice.size for lattice in lattices]
        _check_wide(sizes)
        self.lattices = tuple(lattices)
        self.trees = tuple(trees)
        self.lattice = lattices[0]
        for lattice in self.lattices[1:]:
            self.lattice = product_lattice(self.lattice, lattice)
        rows = [tree.worths for tree in trees]
        self.tree = refilled_tree(trees[0], [_whole_of(sizes, row) for row in zip(*rows)])

    def __eq__(self, other):
        return isinstance(other, World) and self.lattices == other.lattices and self.trees == other.trees

    def __len__(self):
        return len(self.trees)

    def whole_worth(self, worths):
        """Return the number of a row of one worth of each lattice, or raise BadWorlds."""
        many = len(self.lattices)
        if not is_sequence_of(worths, many, many):
            raise BadWorlds("worths")
        if not all([is_worth(lattice, worth) for lattice, worth in zip(self.lattices, worths)]):
            raise BadWorlds("worths")
        return _whole_of([lattice.size for lattice in self.lattices], worths)

    def parted_worths(self, worth):
        """Return the row of a number, or raise NoWorth."""
        whole = check_worth(self.lattice, worth)
        row = []
        for lattice in reversed(self.lattices):
            row.append(whole % lattice.size)
            whole = whole // lattice.size
        return tuple(row[::-1])


def _differ(one, other):
    """Return whether two rules differ in more than worths."""
    if one.board != other.board or one.kinds != other.kinds or one.moves != other.moves:
        return True
    if [condition for condition, _ in one.ends] != [condition for condition, _ in other.ends]:
        return True
    return one.left != other.left or one.start != other.start or one.side != other.side


def joined_rules(rules_row):
    """Return rules that differ in worths alone joined to one, or raise BadWorlds or UnlikeRules."""
    if not is_sequence_of(rules_row, 1, _MOST_PARTS):
        raise BadWorlds("many")
    first = rules_row[0]
    for at, rules in enumerate(rules_row):
        if _differ(first, rules):
            raise UnlikeRules(at)
    sizes = [rules.worths for rules in rules_row]
    _check_wide(sizes)
    ends = []
    for number, (condition, _) in enumerate(first.ends):
        ends.append((condition, _whole_of(sizes, [rules.ends[number][1] for rules in rules_row])))
    last = [_whole_of(sizes, [rules.last[at] for rules in rules_row]) for at in range(3)]
    return Rules(first.board, first.kinds, first.moves, ends, last, first.left, first.start, first.side,
                 _whole_of(sizes, [size - 1 for size in sizes]) + 1)
