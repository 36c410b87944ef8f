"""Firm worths, and the distributive lattice of what they tell."""

from cutworths.lattices import Lattice
from cutworths.maps import is_firm


class Image:
    """The distributive lattice of the firm rows, and where each worth is led in it."""

    def __init__(self, lattice, row):
        self.lattice = lattice
        self.row = row

    def __eq__(self, other):
        return isinstance(other, Image) and self.lattice == other.lattice and self.row == other.row


def firm_worths(lattice):
    """Return the firm worths, ascending."""
    return tuple([worth for worth in range(lattice.size) if is_firm(lattice, worth)])


def firm_image(lattice):
    """Return the lattice of the unlike firm rows, and the number of the row of each worth."""
    firm = firm_worths(lattice)
    rows = [tuple([prime for prime in firm if lattice.at_most(prime, worth)]) for worth in range(lattice.size)]
    # In the order of the least worth that has the row.
    unlike = list({row: True for row in rows})
    table = [[all([prime in other for prime in one]) for other in unlike] for one in unlike]
    return Image(Lattice(table), tuple([unlike.index(row) for row in rows]))
