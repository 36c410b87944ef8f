"""Searches through a game with a memory of positions, and the judge of a memory."""

from cutworths.contexts import agree_under, check_context, child_context, is_hanging
from cutworths.ends import end_worth, next_positions
from cutworths.grounds import GameGround, told_by
from cutworths.lattices import neutral_worth, taken_in
from cutworths.positions import sign_at
from cutworths.spans import Spans


class Looked:
    """What a search with a memory tells, and the roads of the positions asked and of those served."""

    def __init__(self, worth, asked, served):
        self.worth = worth
        self.asked = asked
        self.served = served

    def __eq__(self, other):
        return (isinstance(other, Looked) and self.worth == other.worth and self.asked == other.asked
                and self.served == other.served)


def memory_search(lattice, rules, position, context, memory=None):
    """Search a game from a position on, and ask and feed the memory on the way."""
    asked, served = [], []

    def told_behind(reached, road, own):
        """Return what is so far of an open position when all its next positions are done."""
        sign = sign_at(reached)
        so_far = neutral_worth(lattice, sign)
        for at, behind in enumerate(next_positions(rules, reached)):
            inner = child_context(lattice, sign, own, so_far)
            if is_hanging(lattice, inner):
                so_far = taken_in(lattice, sign, so_far, told_at(behind, road + (at,), inner))
        return so_far

    def told_at(reached, road, own):
        """Return what is told of a position that is come to."""
        told = end_worth(rules, reached)
        if told is not None:
            asked.append(road)
            return told
        if memory is None:
            return told_behind(reached, road, own)
        told = memory.look_up(reached, own)
        if told is not None:
            served.append(road)
            return told
        told = told_behind(reached, road, own)
        memory.keep_look(reached, own, told)
        return told

    first = check_context(lattice, context)
    worth = told_at(position, (), first) if is_hanging(lattice, first) else lattice.bottom
    return Looked(worth, tuple(asked), tuple(served))


def memory_fault(lattice, rules, memory):
    """Return the place of the first look or span that the worth of its position contradicts, or None."""
    ground = GameGround(rules)
    known = {}
    if isinstance(memory, Spans):
        for at, (position, (low, high)) in enumerate(memory.span_rows):
            worth = told_by(lattice, ground, position, known)
            if not lattice.at_most(low, worth) or not lattice.at_most(worth, high):
                return at
        return None
    for at, (position, context, told) in enumerate(memory.looks):
        if not agree_under(lattice, context, told, told_by(lattice, ground, position, known)):
            return at
    return None
