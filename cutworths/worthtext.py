"""The texts of lattices."""

from cutworths.checks import spelled_number
from cutworths.errors import BadLatticeText
from cutworths.lattices import Lattice


def lattice_text(lattice):
    """Return the size and the couples of lower covers as a text."""
    worths = range(lattice.size)
    couples = [f" {x}<{y}" for x in worths for y in worths if x in lattice.covers_of(y)]
    return f"{lattice.size}:" + "".join(couples)


def _read_size(word):
    """Return the size that the first word tells, or None."""
    size = spelled_number(word[:-1], 2)
    if word[-1:] != ":" or size is None or not 1 <= size <= 16:
        return None
    return size


def _read_couple(word, size):
    """Return the two unlike worths that a word tells, or None."""
    couple = tuple([spelled_number(part, 2) for part in word.split("<")])
    if len(couple) != 2 or couple[0] == couple[1]:
        return None
    if not all([worth is not None and worth < size for worth in couple]):
        return None
    return couple


def _reached_table(size, couples):
    """Return the table in which x is at most y if the couples lead from x to y."""
    worths = range(size)
    table = [[x == y or (x, y) in couples for y in worths] for x in worths]
    for between in worths:
        for x in worths:
            for y in worths:
                table[x][y] = table[x][y] or (table[x][between] and table[between][y])
    return table


def read_lattice(text):
    """Return the lattice of a text, or raise BadLatticeText or BadLattice."""
    if not isinstance(text, str) or len(text) > 2000:
        raise BadLatticeText(-1)
    words = text.split(" ")
    size = _read_size(words[0])
    if size is None:
        raise BadLatticeText(0)
    couples = []
    for at in range(1, len(words)):
        couple = _read_couple(words[at], size)
        if couple is None:
            raise BadLatticeText(at)
        couples.append(couple)
    return Lattice(_reached_table(size, couples))
