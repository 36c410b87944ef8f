"""Edits of rules, and the edits that lead back."""

from cutworths.checks import has_form, is_whole
from cutworths.errors import BadEdit
from cutworths.rules import Rules

# The first word of an edit and its number of items.
EDIT_FORMS = (("put move", 3), ("drop move", 2), ("put end", 3), ("drop end", 2),
              ("left", 2), ("last", 3), ("side", 2), ("cell", 3))


def _places(rules, word):
    """Return how many places an edit of this first word has, 0 if it names none or has none."""
    many = {"put move": len(rules.moves) + 1, "drop move": len(rules.moves),
            "put end": len(rules.ends) + 1, "drop end": len(rules.ends),
            "last": 3, "cell": rules.board.size}
    return many.get(word, 0)


def _put_in(items, at, item):
    """Return the items with one more, whose number is at."""
    return list(items[:at]) + [item] + list(items[at:])


def _left_out(items, at):
    """Return the items without the one of this number."""
    return list(items[:at]) + list(items[at + 1:])


def _replaced(items, at, item):
    """Return the items with another one at this number."""
    return list(items[:at]) + [item] + list(items[at + 1:])


def edited_rules(rules, edit):
    """Return the rules behind an edit, or raise BadEdit or BadRules."""
    if not has_form(edit, EDIT_FORMS):
        raise BadEdit("edit")
    word, first = edit[0], edit[1]
    if word != "left" and word != "side" and not is_whole(first, 0, _places(rules, word) - 1):
        raise BadEdit("at")
    moves, ends, last, left = rules.moves, rules.ends, rules.last, rules.left
    start, side = rules.start, rules.side
    if word == "put move":
        moves = _put_in(moves, first, edit[2])
    elif word == "drop move":
        moves = _left_out(moves, first)
    elif word == "put end":
        ends = _put_in(ends, first, edit[2])
    elif word == "drop end":
        ends = _left_out(ends, first)
    elif word == "last":
        last = _replaced(last, first, edit[2])
    elif word == "cell":
        start = _replaced(start, first, edit[2])
    elif word == "left":
        left = first
    else:
        side = first
    return Rules(rules.board, rules.kinds, moves, ends, last, left, start, side, rules.worths)


def undo_edit(rules, edit):
    """Return the edit that leads back from the edited rules."""
    # The edit has the same errors here as where it is done.
    edited_rules(rules, edit)
    word, at = edit[0], edit[1]
    if word == "put move":
        return ("drop move", at)
    if word == "drop move":
        return ("put move", at, rules.moves[at])
    if word == "put end":
        return ("drop end", at)
    if word == "drop end":
        return ("put end", at, rules.ends[at])
    if word == "last":
        return ("last", at, rules.last[at])
    if word == "cell":
        return ("cell", at, rules.start[at])
    return (word, rules.left if word == "left" else rules.side)
