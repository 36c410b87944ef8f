"""Positions: the contents of all cells, the side to move, and the moves left."""


def start_of(rules):
    """Return the position at the start of a play."""
    return (rules.start, rules.side, rules.left)


def exchanged_position(position):
    """Return the position with the other side to move."""
    cells, side, left = position
    return (tuple(cells), 1 - side, left)


def led_position(position, order):
    """Return the position in which cell order[c] has what cell c held."""
    cells, side, left = position
    led = list(cells)
    for cell, content in enumerate(cells):
        led[order[cell]] = content
    return (tuple(led), side, left)


def renamed_position(position, names, others):
    """Return the position with kind others[k] in the place of names[k]."""
    cells, side, left = position
    new = {name: other for name, other in zip(names, others)}
    return (tuple([new.get(content, content) for content in cells]), side, left)


def sign_at(position):
    """Return the sign of a position that is open: side 0 joins, side 1 meets."""
    return "joins" if position[1] == 0 else "meets"
