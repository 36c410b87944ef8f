"""Distributive lattices, and the pentagons and diamonds that all others have."""

from cutworths.lattices import is_worth


class Pentagon:
    """Five worths: lesser below greater, and one aside that cannot tell them apart."""

    def __init__(self, low, lesser, greater, aside, high):
        self.low = low
        self.lesser = lesser
        self.greater = greater
        self.aside = aside
        self.high = high

    def __eq__(self, other):
        return (isinstance(other, Pentagon) and self.low == other.low and self.lesser == other.lesser
                and self.greater == other.greater and self.aside == other.aside and self.high == other.high)


class Diamond:
    """Five worths: three of which each two have the same join and the same meet."""

    def __init__(self, low, first, second, third, high):
        self.low = low
        self.first = first
        self.second = second
        self.third = third
        self.high = high

    def __eq__(self, other):
        return (isinstance(other, Diamond) and self.low == other.low and self.first == other.first
                and self.second == other.second and self.third == other.third and self.high == other.high)


def spreads(lattice, x, y, z):
    """Return whether meeting with x spreads over the join of y and z."""
    met = lattice.meet_of(x, lattice.join_of(y, z))
    return met == lattice.join_of(lattice.meet_of(x, y), lattice.meet_of(x, z))


def is_distributive(lattice):
    """Return whether every meet spreads over every join."""
    worths = range(lattice.size)
    return all([spreads(lattice, x, y, z) for x in worths for y in worths for z in worths])


def _share_ends(lattice, rows):
    """Return whether all these couples of worths have one join and one meet."""
    joins = [lattice.join_of(one, other) for one, other in rows]
    meets = [lattice.meet_of(one, other) for one, other in rows]
    return joins == joins[:1] * len(rows) and meets == meets[:1] * len(rows)


def _is_bent(lattice, lesser, greater, aside):
    """Return whether three worths are the middle of a pentagon."""
    if lesser == greater or not lattice.at_most(lesser, greater):
        return False
    return _share_ends(lattice, [(lesser, aside), (greater, aside)])


def _is_cut_in_three(lattice, first, second, third):
    """Return whether three worths are the middle of a diamond."""
    if first == second or first == third or second == third:
        return False
    return _share_ends(lattice, [(first, second), (first, third), (second, third)])


def _first_pentagon(lattice):
    """Return the pentagon with the least middle, or None."""
    worths = range(lattice.size)
    for lesser in worths:
        for greater in worths:
            for aside in worths:
                if _is_bent(lattice, lesser, greater, aside):
                    low, high = lattice.meet_of(lesser, aside), lattice.join_of(lesser, aside)
                    return Pentagon(low, lesser, greater, aside, high)
    return None


def _first_diamond(lattice):
    """Return the diamond with the least middle, or None."""
    for first in range(lattice.size):
        for second in range(first + 1, lattice.size):
            for third in range(second + 1, lattice.size):
                if _is_cut_in_three(lattice, first, second, third):
                    low, high = lattice.meet_of(first, second), lattice.join_of(first, second)
                    return Diamond(low, first, second, third, high)
    return None


def find_shape(lattice):
    """Return the first pentagon, else the first diamond, else None."""
    pentagon = _first_pentagon(lattice)
    if pentagon is not None:
        return pentagon
    return _first_diamond(lattice)


def _has_ends(lattice, shape, one, other):
    """Return whether the shape's low and high are the meet and join of two worths."""
    return shape.low == lattice.meet_of(one, other) and shape.high == lattice.join_of(one, other)


def _are_worths(lattice, things):
    """Return whether all these things are worths of the lattice."""
    return all([is_worth(lattice, thing) for thing in things])


def is_shape(lattice, shape):
    """Return whether this is a Pentagon or Diamond that the lattice's worths form."""
    if isinstance(shape, Pentagon):
        if not _are_worths(lattice, [shape.low, shape.lesser, shape.greater, shape.aside, shape.high]):
            return False
        return (_is_bent(lattice, shape.lesser, shape.greater, shape.aside)
                and _has_ends(lattice, shape, shape.lesser, shape.aside))
    if isinstance(shape, Diamond):
        if not _are_worths(lattice, [shape.low, shape.first, shape.second, shape.third, shape.high]):
            return False
        return (_is_cut_in_three(lattice, shape.first, shape.second, shape.third)
                and _has_ends(lattice, shape, shape.first, shape.second))
    return False
