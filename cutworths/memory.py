"""Memories that keep what was told of positions, with the contexts it was told in."""

from cutworths.checks import is_whole, picks_fault
from cutworths.contexts import check_context, serves
from cutworths.errors import BadMemory, NoLook
from cutworths.lattices import check_worth

_MOST_ROOM = 400
_RULES = ("newest", "never", "by draw")


class Memory:
    """A memory of at most as many looks, tuples (position, context, worth), as it has room for."""

    def __init__(self, lattice, room, *, rule="newest", picks=()):
        if not is_whole(room, 0, _MOST_ROOM):
            raise BadMemory("room")
        if rule not in _RULES:
            raise BadMemory("rule")
        if picks_fault(picks) is not None:
            raise BadMemory("picks")
        self.lattice = lattice
        self.room = room
        self.rule = rule
        self.picks = tuple(picks)
        self.looks = ()
        self._used = 0

    def __len__(self):
        return len(self.looks)

    def _place_to_free(self):
        """Return the place of the look that goes out of a full memory."""
        if self.rule == "by draw" and self._used < len(self.picks):
            self._used += 1
            return self.picks[self._used - 1] % self.room
        return 0

    def keep_look(self, position, context, worth):
        """Return whether the look is held because of this call."""
        look = (position, check_context(self.lattice, context), check_worth(self.lattice, worth))
        if self.room == 0 or look in self.looks:
            return False
        if len(self.looks) == self.room:
            if self.rule == "never":
                return False
            self.forget_look(self._place_to_free())
        self.looks = self.looks + (look,)
        return True

    def look_up(self, position, context):
        """Return the worth of the eldest look of this position whose context serves the wanted one, or None."""
        wanted = check_context(self.lattice, context)
        for known, kept, worth in self.looks:
            if known == position and serves(self.lattice, kept, wanted) is None:
                return worth
        return None

    def forget_look(self, at):
        """Take out the look at this place and return it, or raise NoLook."""
        if not is_whole(at, 0, len(self.looks) - 1):
            raise NoLook(at)
        look = self.looks[at]
        self.looks = self.looks[:at] + self.looks[at + 1:]
        return look
