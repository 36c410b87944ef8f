"""Contexts: couples (a, b) of worths that lead each worth v to the join of a and the meet of b and v."""

from cutworths.checks import is_couple, is_sign
from cutworths.errors import BadContext, NoSign
from cutworths.lattices import check_worth, is_worth
from cutworths.shapes import spreads


def check_context(lattice, context):
    """Return the context as a tuple, or raise BadContext."""
    if not is_couple(context) or not all([is_worth(lattice, worth) for worth in context]):
        raise BadContext()
    return tuple(context)


def _check_sign(sign):
    """Raise NoSign if this is no sign."""
    if not is_sign(sign):
        raise NoSign(sign)


def root_context(lattice):
    """Return the context of a root."""
    return (lattice.bottom, lattice.top)


def context_or_root(lattice, context):
    """Return the context as a tuple, the root context for None, or raise BadContext."""
    return root_context(lattice) if context is None else check_context(lattice, context)


# The next three do not check what they are passed: searches ask them at every node.


def led_by(lattice, context, worth):
    """Return what a checked context leads a worth to."""
    return lattice.join_of(context[0], lattice.meet_of(context[1], worth))


def is_hanging(lattice, context):
    """Return whether a checked context leads some two worths to unlike ones."""
    return not lattice.at_most(context[1], context[0])


def child_context(lattice, sign, context, so_far):
    """Return the context of a child within a node of this sign and checked context."""
    low, high = context
    met = lattice.meet_of(high, so_far)
    return (lattice.join_of(low, met), high) if sign == "joins" else (low, met)


def value_in(lattice, context, worth):
    """Return what the context leads the worth to."""
    check_context(lattice, context)
    check_worth(lattice, worth)
    return led_by(lattice, context, worth)


def ends_of(lattice, context):
    """Return what the context leads bottom and top to."""
    low, high = check_context(lattice, context)
    return (low, lattice.join_of(low, high))


def hangs(lattice, context):
    """Return whether the context leads some two worths to unlike ones."""
    return is_hanging(lattice, check_context(lattice, context))


def same_map(lattice, one, other):
    """Return whether both contexts lead every worth to the same worth."""
    check_context(lattice, one)
    check_context(lattice, other)
    return all([led_by(lattice, one, worth) == led_by(lattice, other, worth) for worth in range(lattice.size)])


def context_in(lattice, sign, context, so_far):
    """Return the context of a child within a node, so_far being what is known of its other children."""
    _check_sign(sign)
    check_context(lattice, context)
    check_worth(lattice, so_far)
    return child_context(lattice, sign, context, so_far)


def nested_context(lattice, outer, inner):
    """Return the context inner within outer."""
    a, b = check_context(lattice, outer)
    c, d = check_context(lattice, inner)
    return (lattice.join_of(a, lattice.meet_of(b, c)), lattice.meet_of(b, d))


def plain_context(lattice, context):
    """Return the context made of what bottom and top are led to."""
    return ends_of(lattice, context)


def turned_context(lattice, context):
    """Return the context for the turned lattice."""
    low, high = ends_of(lattice, context)
    return (high, low)


def nesting_fault(lattice):
    """Return the least triple of worths over which meeting does not spread, or None."""
    worths = range(lattice.size)
    for s in worths:
        for r in worths:
            for v in worths:
                if not spreads(lattice, s, r, v):
                    return (s, r, v)
    return None


def parted_primes(lattice, context):
    """Return the primes that are at most b and not at most a, ascending."""
    low, high = check_context(lattice, context)
    return tuple([prime for prime in lattice.primes
                  if lattice.at_most(prime, high) and not lattice.at_most(prime, low)])


def agree_under(lattice, context, one, other):
    """Return whether the context leads the two worths alike."""
    check_context(lattice, context)
    check_worth(lattice, one)
    check_worth(lattice, other)
    return led_by(lattice, context, one) == led_by(lattice, context, other)


def serves(lattice, kept, wanted):
    """Return None if what agrees under kept agrees under wanted, else two worths for which it does not."""
    a, b = check_context(lattice, kept)
    c, d = check_context(lattice, wanted)
    if not lattice.at_most(lattice.meet_of(d, a), c):
        return (lattice.bottom, a)
    if not lattice.at_most(d, lattice.join_of(c, b)):
        return (b, lattice.top)
    return None
