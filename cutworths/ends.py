"""When a position is over, what it is worth then, and what can be played before."""

from cutworths.boards import chains_within, edges_of
from cutworths.moves import is_stuck, moves_of, position_behind


def _has_row(rules, cells, arrow, kind, length):
    """Return whether the kind holds all cells of some chain of this length along the arrow."""
    held = [cell for cell, content in enumerate(cells) if content == kind]
    return len(chains_within(edges_of(rules.board, arrow), held, length)) > 0


def condition_holds(rules, position, condition):
    """Return whether a condition, as rules keep it, holds in a position."""
    cells = position[0]
    word = condition[0]
    if word == "all":
        return all([condition_holds(rules, position, inner) for inner in condition[1]])
    if word == "holds":
        return cells[condition[1]] == condition[2]
    if word == "row":
        return _has_row(rules, cells, condition[1], condition[2], condition[3])
    if word == "gone":
        return condition[1] not in cells
    return is_stuck(rules, position)


def end_of(rules, position):
    """Return why a position is over, or None if it is open."""
    for number, (condition, _) in enumerate(rules.ends):
        if condition_holds(rules, position, condition):
            return ("end", number)
    if position[2] == 0:
        return ("none",)
    if is_stuck(rules, position):
        return ("still", position[1])
    return None


def end_worth(rules, position):
    """Return the worth of a position that is over, or None if it is open."""
    end = end_of(rules, position)
    if end is None:
        return None
    if end[0] == "end":
        return rules.ends[end[1]][1]
    return rules.last[0] if end[0] == "none" else rules.last[1 + end[1]]


def open_moves(rules, position):
    """Return the moves of a position that is open, none of one that is over."""
    if end_of(rules, position) is not None:
        return ()
    return moves_of(rules, position)


def next_positions(rules, position):
    """Return the positions behind the open moves, in their order."""
    return tuple([position_behind(position, move) for move in open_moves(rules, position)])
