"""Memories that keep for each position between which worths its worth must lie."""

from cutworths.checks import is_whole
from cutworths.contexts import check_context, led_by
from cutworths.errors import Apart, NoLook
from cutworths.lattices import check_worth


def span_of(lattice, context, worth):
    """Return the meet and the join of all worths that agree with this one under the context."""
    check_context(lattice, context)
    check_worth(lattice, worth)
    told = led_by(lattice, context, worth)
    alike = [other for other in range(lattice.size) if led_by(lattice, context, other) == told]
    return (lattice.meet_all(alike), lattice.join_all(alike))


class Spans:
    """A memory of one span, a couple of worths, for each position."""

    def __init__(self, lattice):
        self.lattice = lattice
        self._spans = {}

    def __len__(self):
        return len(self._spans)

    @property
    def span_rows(self):
        """The couples of positions and spans, in the order in which the positions came in."""
        return tuple([(position, self._spans[position]) for position in self._spans])

    def span_at(self, position):
        """Return the span of a position, from bottom to top if it has no entry."""
        return self._spans.get(position, (self.lattice.bottom, self.lattice.top))

    def keep_look(self, position, context, worth):
        """Narrow the span of a position and return whether it has changed, or raise Apart if no worth fits."""
        new_low, new_high = span_of(self.lattice, context, worth)
        span = self.span_at(position)
        low, high = self.lattice.join_of(span[0], new_low), self.lattice.meet_of(span[1], new_high)
        if not self.lattice.at_most(low, high):
            raise Apart(low, high)
        self._spans[position] = (low, high)
        return span != (low, high)

    def look_up(self, position, context):
        """Return the low of the span if the context leads its low and its high alike, else None."""
        check_context(self.lattice, context)
        low, high = self.span_at(position)
        if led_by(self.lattice, context, low) != led_by(self.lattice, context, high):
            return None
        return low

    def forget_look(self, at):
        """Take out the entry at this place and return it, or raise NoLook."""
        if not is_whole(at, 0, len(self._spans) - 1):
            raise NoLook(at)
        row = self.span_rows[at]
        del self._spans[row[0]]
        return row

    def put_spans(self, rows):
        """Make the entries those of these rows, as span_rows told them."""
        self._spans = {position: span for position, span in rows}
