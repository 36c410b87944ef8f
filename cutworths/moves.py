"""The moves in a position, and the positions behind them."""

from cutworths.boards import edges_of
from cutworths.errors import NotAMove
from cutworths.rules import side_of_kind, side_of_move


def _moves_along(rules, cells, word, kind, arrow):
    """Return the steps or takes of a kind along an arrow, ascending."""
    if word == "step":
        goals = [""]
    else:
        side = side_of_kind(rules, kind)
        goals = [name for name, other in rules.kinds if other != side]
    edges = edges_of(rules.board, arrow)
    return tuple([(word, kind, start, end) for start, end in edges if cells[start] == kind and cells[end] in goals])


def moves_by(rules, position, move_rule):
    """Return the moves that one move rule gives, ascending, whichever side is to move."""
    cells = position[0]
    word = move_rule[0]
    if word == "pass":
        return (("pass",),)
    kind, third = move_rule[1], move_rule[2]
    if word == "place":
        return tuple([("place", kind, cell) for cell in third if cells[cell] == ""])
    if word == "turn":
        return tuple([("turn", kind, cell, third) for cell, content in enumerate(cells) if content == kind])
    return _moves_along(rules, cells, word, kind, third)


def moves_of(rules, position):
    """Return the moves of the side to move, ascending, each once."""
    side = position[1]
    found = []
    for rule in rules.moves:
        if side_of_move(rules, rule) == side:
            found.extend(moves_by(rules, position, rule))
    return tuple(sorted(set(found)))


def is_stuck(rules, position):
    """Return whether the side to move has no move."""
    return len(moves_of(rules, position)) == 0


def position_behind(position, move):
    """Return the position behind a move that can be made in it."""
    cells, side, left = position
    contents = list(cells)
    word = move[0]
    if word == "place":
        contents[move[2]] = move[1]
    elif word == "turn":
        contents[move[2]] = move[3]
    elif word != "pass":
        contents[move[2]] = ""
        contents[move[3]] = move[1]
    return (tuple(contents), 1 - side, left - 1)


def after_move(rules, position, move):
    """Return the position behind a move, or raise NotAMove."""
    if position[2] > 0:
        # The own move is made, for what is equal to it need not fit as an index.
        for own in moves_of(rules, position):
            if own == move:
                return position_behind(position, own)
    raise NotAMove(move)


def move_between(rules, position, other):
    """Return the move that leads from the position to the other one, or None."""
    if position[2] > 0:
        for move in moves_of(rules, position):
            if position_behind(position, move) == other:
                return move
    return None
