"""Maps between lattices, and the primes that tell worths apart."""

from cutworths.checks import is_sequence_of
from cutworths.errors import BadMap, NotPrime, TooMany
from cutworths.lattices import check_worth, is_worth


def check_map(one, other, values):
    """Return the map as a tuple, or raise BadMap."""
    if not is_sequence_of(values, one.size, one.size):
        raise BadMap(-1)
    for index, value in enumerate(values):
        if not is_worth(other, value):
            raise BadMap(index)
    return tuple(values)


def _first_loss(one, other, values):
    """Return the least couple whose join or meet a checked map loses, with the word, or None."""
    for x in range(one.size):
        for y in range(x + 1, one.size):
            if values[one.join_of(x, y)] != other.join_of(values[x], values[y]):
                return (x, y, "join")
            if values[one.meet_of(x, y)] != other.meet_of(values[x], values[y]):
                return (x, y, "meet")
    return None


def map_fault(one, other, values):
    """Return None if the map keeps joins and meets, else the first couple and what it loses."""
    return _first_loss(one, other, check_map(one, other, values))


def keeps_ends(one, other, values):
    """Return whether the map leads bottom to bottom and top to top."""
    kept = check_map(one, other, values)
    return kept[one.bottom] == other.bottom and kept[one.top] == other.top


def _all_rows(length, many):
    """Return all rows of this length over 0 .. many - 1, ascending."""
    rows = [()]
    for _ in range(length):
        rows = [row + (entry,) for row in rows for entry in range(many)]
    return rows


def all_maps(one, other):
    """Yield all maps that keep joins and meets, ascending."""
    if one.size > 5 or other.size > 5:
        raise TooMany(5)
    for values in _all_rows(one.size, other.size):
        if _first_loss(one, other, values) is None:
            yield values


def is_firm(lattice, worth):
    """Return whether the worth is at most a join only if it is at most one of the two joined."""
    if worth == lattice.bottom:
        return False
    missed = [x for x in range(lattice.size) if not lattice.at_most(worth, x)]
    return not any([lattice.at_most(worth, lattice.join_of(x, y)) for x in missed for y in missed])


def check_firm(lattice, prime):
    """Return the prime, or raise NoWorth, then NotPrime if it is not firm."""
    check_worth(lattice, prime)
    if not is_firm(lattice, prime):
        raise NotPrime(prime)
    return prime


def prime_map(lattice, prime):
    """Return the map to 0 and 1 that asks whether the prime is at most a worth."""
    check_firm(lattice, prime)
    return tuple([1 if lattice.at_most(prime, worth) else 0 for worth in range(lattice.size)])


def prime_rows(lattice):
    """Return for each worth the places of the primes at most it."""
    primes = lattice.primes
    places = range(len(primes))
    worths = range(lattice.size)
    return tuple([tuple([at for at in places if lattice.at_most(primes[at], worth)]) for worth in worths])


def prime_order(lattice):
    """Return the couples of places of unlike primes of which the first is at most the second."""
    primes = lattice.primes
    places = range(len(primes))
    return tuple([(i, j) for i in places for j in places if i != j and lattice.at_most(primes[i], primes[j])])
