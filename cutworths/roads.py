"""Roads through a game: the child numbers of the open moves from a position on."""

from cutworths.checks import is_sequence, is_whole
from cutworths.ends import end_worth, next_positions, open_moves
from cutworths.errors import NoRoad, NotAMove
from cutworths.moves import position_behind


def _played_along(rules, position, road):
    """Return the moves on a road and the position to which it leads, or raise NoRoad."""
    if not is_sequence(road):
        raise NoRoad(road)
    moves = []
    for at in road:
        choices = open_moves(rules, position)
        if not is_whole(at, 0, len(choices) - 1):
            raise NoRoad(road)
        moves.append(choices[at])
        position = position_behind(position, choices[at])
    return tuple(moves), position


def position_at(rules, position, road):
    """Return the position to which a road leads, or raise NoRoad."""
    _, reached = _played_along(rules, position, road)
    return reached


def moves_along(rules, position, road):
    """Return the moves on a road, or raise NoRoad."""
    moves, _ = _played_along(rules, position, road)
    return moves


def _number_of_move(rules, position, move):
    """Return the number of an open move, or raise NotAMove."""
    for at, own in enumerate(open_moves(rules, position)):
        if own == move:
            return at
    raise NotAMove(move)


def road_by(rules, position, moves):
    """Return the road of a sequence of moves, or raise NotAMove with the first that is not open."""
    road = []
    for move in moves:
        at = _number_of_move(rules, position, move)
        position = position_behind(position, open_moves(rules, position)[at])
        road.append(at)
    return tuple(road)


def plays_of(rules, position):
    """Yield the road to the end and the end worth of each play, from the left."""
    waiting = [((), position)]
    while waiting:
        road, reached = waiting.pop()
        worth = end_worth(rules, reached)
        if worth is not None:
            yield (road, worth)
        else:
            children = [(road + (at,), behind) for at, behind in enumerate(next_positions(rules, reached))]
            waiting.extend(children[::-1])
