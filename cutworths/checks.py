"""Checks of plain values that several modules share."""

_LETTERS = "abcdefghijklmnopqrstuvwxyz"
_FIGURES = "0123456789"
_SIGNS = ("joins", "meets")


def is_sequence(thing):
    """Return whether the thing is a list or tuple."""
    return isinstance(thing, (list, tuple))


def is_sequence_of(thing, least, most):
    """Return whether the thing is a sequence of least to most items."""
    return is_sequence(thing) and least <= len(thing) <= most


def is_couple(thing):
    """Return whether the thing is a sequence of two items."""
    return is_sequence_of(thing, 2, 2)


def is_whole(thing, least, most):
    """Return whether the thing is a whole number from least to most."""
    return isinstance(thing, int) and not isinstance(thing, bool) and least <= thing <= most


def is_sign(thing):
    """Return whether the thing is "joins" or "meets"."""
    return thing in _SIGNS


def is_name(thing):
    """Return whether the thing is a string of 1 to 8 letters from a to z."""
    return isinstance(thing, str) and 1 <= len(thing) <= 8 and all([letter in _LETTERS for letter in thing])


def has_form(thing, forms):
    """Return whether the thing is a sequence whose first word and length stand in the forms."""
    return is_sequence(thing) and len(thing) > 0 and (thing[0], len(thing)) in forms


def order_fault(order, size):
    """Return the first index at which the order fails to hold each of 0 .. size - 1 once, or None."""
    if not is_sequence_of(order, size, size):
        return -1
    for index in range(size):
        if not is_whole(order[index], 0, size - 1) or order[index] in order[:index]:
            return index
    return None


def picks_fault(picks):
    """Return the index of the first pick that is no whole number of 0 or more, -1 for no sequence, or None."""
    if not is_sequence(picks):
        return -1
    for index, pick in enumerate(picks):
        if not isinstance(pick, int) or isinstance(pick, bool) or pick < 0:
            return index
    return None


def spelled_number(word, figures):
    """Return the number that at most so many figures spell without a leading zero, or None."""
    if not 1 <= len(word) <= figures or not all([figure in _FIGURES for figure in word]):
        return None
    if len(word) > 1 and word[0] == "0":
        return None
    return int(word)
