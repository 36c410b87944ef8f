"""Deeds: what is done at a desk, one tuple each."""

from cutworths.checks import is_sequence, is_sequence_of, is_whole, picks_fault
from cutworths.errors import BadDeed

_MOST_PICKS = 60

# What stands behind the first word of a deed.
DEED_FIELDS = {"move": ("number",), "back": (), "worth": (), "ask": ("steps",), "cut": (), "go on": (),
               "hands": ("depth", "hands", "picks"), "forget": ("number",), "prime": ("number",),
               "certificate": ("which",), "rule": ("edit",)}


def _fits(field, thing):
    """Return whether a thing may stand in a field."""
    if field == "steps":
        return is_whole(thing, 1, 400)
    if field == "depth":
        return is_whole(thing, 0, 8)
    if field == "hands":
        return is_whole(thing, 1, 4)
    if field == "picks":
        return is_sequence_of(thing, 0, _MOST_PICKS) and picks_fault(thing) is None
    if field == "which":
        return thing in ("floor", "ceiling")
    if field == "edit":
        return is_sequence(thing)
    # A number is what a pick is, too.
    return picks_fault([thing]) is None


def _as_tuples(thing):
    """Return the thing with a tuple for each sequence in it."""
    return tuple([_as_tuples(item) for item in thing]) if is_sequence(thing) else thing


def check_deed(thing):
    """Return the deed as a tuple, or raise BadDeed."""
    if not is_sequence(thing) or len(thing) == 0 or not isinstance(thing[0], str) or thing[0] not in DEED_FIELDS:
        raise BadDeed("deed")
    fields = DEED_FIELDS[thing[0]]
    if len(thing) != len(fields) + 1:
        raise BadDeed("many")
    if not all([_fits(field, item) for field, item in zip(fields, thing[1:])]):
        raise BadDeed("field")
    return _as_tuples(thing)
