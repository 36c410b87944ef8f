"""Boards of cells, and the arrows that lead over them."""

from cutworths.checks import is_couple, is_name, is_sequence_of, is_whole
from cutworths.errors import BadBoard, BadLength, NoArrow


def _is_edge(size, thing):
    """Return whether the thing is a couple of unlike cells of a board of this size."""
    return is_couple(thing) and all([is_whole(cell, 0, size - 1) for cell in thing]) and thing[0] != thing[1]


def _arrow_fault(size, names, arrow):
    """Return the word for what is wrong with an arrow behind arrows of these names, or None."""
    if not is_couple(arrow):
        return "arrow"
    name, edges = arrow
    if not is_name(name) or name in names:
        return "name"
    if not is_sequence_of(edges, 0, 24):
        return "edges"
    if not all([_is_edge(size, edge) for edge in edges]):
        return "edge"
    return None


def _kept_edges(edges):
    """Return the edges as tuples, ascending, each once."""
    return tuple(sorted({(start, end) for start, end in edges}))


def _kept_arrows(size, arrows):
    """Return the arrows as they are kept, or raise BadBoard."""
    kept = []
    for at, arrow in enumerate(arrows):
        fault = _arrow_fault(size, [name for name, _ in kept], arrow)
        if fault is not None:
            raise BadBoard(fault, at)
        kept.append((arrow[0], _kept_edges(arrow[1])))
    return tuple(kept)


class Board:
    """Cells numbered from 0, and arrows, each a name with its edges."""

    def __init__(self, size, arrows):
        if not is_whole(size, 1, 9):
            raise BadBoard("size", 0)
        if not is_sequence_of(arrows, 0, 6):
            raise BadBoard("arrows", 0)
        self.size = size
        self.arrows = _kept_arrows(size, arrows)

    def __eq__(self, other):
        return isinstance(other, Board) and self.size == other.size and self.arrows == other.arrows


def edges_of(board, arrow):
    """Return the edges of the arrow of this name, or None if there is none."""
    for name, edges in board.arrows:
        if name == arrow:
            return edges
    return None


def chains_within(edges, cells, length):
    """Return the chains of this length along the edges over ascending cells alone, ascending."""
    chains = [(cell,) for cell in cells]
    for _ in range(length - 1):
        chains = [chain + (end,) for chain in chains for start, end in edges
                  if start == chain[-1] and end in cells and end not in chain]
    return tuple(chains)


def chains_of(board, arrow, length):
    """Return all chains of this length along an arrow, ascending."""
    edges = edges_of(board, arrow)
    if edges is None:
        raise NoArrow(arrow)
    if not is_whole(length, 1, 4):
        raise BadLength(length)
    return chains_within(edges, list(range(board.size)), length)
