"""Ways to make lattices: chains, sets, products, renamed and turned ones."""

from cutworths.checks import is_couple, is_sequence, is_sequence_of, is_whole, order_fault
from cutworths.errors import BadCount, BadCouples, BadOrder, BadSets, TooMany
from cutworths.lattices import Lattice


def chain_lattice(size):
    """Return the lattice in which x is at most y exactly if x <= y."""
    if not is_whole(size, 1, 16):
        raise BadCount("size")
    return Lattice([[x <= y for y in range(size)] for x in range(size)])


def set_lattice(points):
    """Return the lattice of all sets of so many points."""
    if not is_whole(points, 0, 4):
        raise BadCount("points")
    worths = range(1 << points)
    return Lattice([[x & y == x for y in worths] for x in worths])


def _between_ends(inner):
    """Return the lattice of a bottom 0, a top 4, and between them these couples and no others."""
    worths = range(5)
    return Lattice([[x == y or x == 0 or y == 4 or (x, y) in inner for y in worths] for x in worths])


def pentagon_lattice():
    """Return the lattice of the worths low, lesser, greater, aside, high."""
    return _between_ends([(1, 2)])


def diamond_lattice():
    """Return the lattice of the worths low, first, second, third, high."""
    return _between_ends([])


def turned_lattice(lattice):
    """Return the lattice with its order turned round."""
    return Lattice([[row[x] for row in lattice.table] for x in range(lattice.size)])


def renamed_lattice(lattice, order):
    """Return the lattice in which the old worth w is order[w]."""
    index = order_fault(order, lattice.size)
    if index is not None:
        raise BadOrder(index)
    worths = range(lattice.size)
    olds = [order.index(worth) for worth in worths]
    return Lattice([[lattice.table[olds[x]][olds[y]] for y in worths] for x in worths])


def product_lattice(one, other):
    """Return the lattice of the couples of worths, ordered in both places."""
    if one.size * other.size > 16:
        raise TooMany(16)
    couples = [(x, y) for x in range(one.size) for y in range(other.size)]
    return Lattice([[one.at_most(x, a) and other.at_most(y, b) for a, b in couples] for x, y in couples])


def _is_ascending(points, most):
    """Return whether this is a sequence of ascending unlike whole numbers from 0 to most."""
    if not is_sequence(points) or not all([is_whole(point, 0, most) for point in points]):
        return False
    return all([points[at] < points[at + 1] for at in range(len(points) - 1)])


def _holds_all(holder, points):
    """Return whether the holder has all these points."""
    return all([point in holder for point in points])


def _closed_fault(sets):
    """Return the first fault that keeps unlike sets from being a lattice, or None."""
    for one in range(len(sets)):
        for other in range(one + 1, len(sets)):
            if tuple([point for point in sets[one] if point in sets[other]]) not in sets:
                return ("meet", (one, other))
    if not any([all([_holds_all(holder, points) for points in sets]) for holder in sets]):
        return ("top", ())
    return None


def _sets_fault(sets):
    """Return what is wrong with the sets and where, or None."""
    if not is_sequence_of(sets, 1, 16):
        return ("sets", ())
    kept = []
    for at, points in enumerate(sets):
        if not _is_ascending(points, 15):
            return ("set", (at,))
        if tuple(points) in kept:
            return ("twice", (at,))
        kept.append(tuple(points))
    return _closed_fault(kept)


def lattice_of_sets(sets):
    """Return the lattice in which worth i is the i-th set, and at most means contained."""
    fault = _sets_fault(sets)
    if fault is not None:
        what, at = fault
        raise BadSets(what, at)
    return Lattice([[_holds_all(other, one) for other in sets] for one in sets])


def _couples_fault(points, couples):
    """Return the index of the first item that is no couple of points, or None."""
    if not is_sequence(couples):
        return -1
    for index, couple in enumerate(couples):
        if not is_couple(couple) or not all([is_whole(point, 0, points - 1) for point in couple]):
            return index
    return None


def _least_lower(point, couples):
    """Return the points of the least lower set that holds this point."""
    held = {point: True}
    waiting = [point]
    while waiting:
        upper = waiting.pop()
        for needed, holder in couples:
            if holder == upper and needed not in held:
                held[needed] = True
                waiting.append(needed)
    return list(held)


def lower_sets(points, couples):
    """Return the sets of points that hold x whenever they hold y, for each couple (x, y)."""
    if not is_whole(points, 0, 15):
        raise BadCount("points")
    index = _couples_fault(points, couples)
    if index is not None:
        raise BadCouples(index)
    # Every lower set is put together from the least ones of its points, so none is missed,
    # and as sets are only added, more than 16 are seen before there are many.
    found = {(): True}
    for point in range(points):
        lower = _least_lower(point, couples)
        for held in list(found):
            found[tuple(sorted(set(held) | set(lower)))] = True
        if len(found) > 16:
            raise TooMany(16)
    return tuple(sorted(list(found), key=lambda row: (len(row), row)))


def lower_lattice(points, couples):
    """Return the lattice of the lower sets."""
    return lattice_of_sets(lower_sets(points, couples))
