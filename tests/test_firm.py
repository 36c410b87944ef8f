"""Firm worths and their image [15.5], [15.6]."""

import itertools
import random

from cutworths.askers import Asking, run_asking, finish_asking
from cutworths.bars import bar_game
from cutworths.cutting import cut_search
from cutworths.firm import Image, firm_image, firm_worths
from cutworths.lattices import Lattice
from cutworths.making import chain_lattice, diamond_lattice, pentagon_lattice, set_lattice
from cutworths.trees import Tree
from tests.base import DIAMOND, PENTAGON, Case, spreads
from tests.growing import DISTRIBUTIVE, LATTICES, OTHERS, Plain, some_shapes
from tests.test_goals import own_firm


def own_image(plain):
    """The table and the row of [15.5]."""
    firm = own_firm(plain)
    rows = [frozenset(p for p in firm if plain.table[p][x]) for x in plain.worths]
    unlike = []
    for row in rows:
        if row not in unlike:
            unlike.append(row)
    table = tuple(tuple(one <= other for other in unlike) for one in unlike)
    return table, tuple(unlike.index(row) for row in rows)


class TestFirm(Case):
    def test_in_every_lattice(self):
        for lattice in LATTICES:
            plain = Plain(lattice)
            self.exactly(firm_worths(lattice), tuple(own_firm(plain)))
            self.exactly(firm_worths(lattice) == lattice.primes, lattice in DISTRIBUTIVE)

    def test_images(self):
        for lattice in LATTICES:
            plain = Plain(lattice)
            image = firm_image(lattice)
            self.assertIsInstance(image, Image)
            self.assertIsInstance(image.lattice, Lattice)
            self.exactly((image.lattice.table, image.row), own_image(plain))
            self.assertTrue(spreads(image.lattice.table))
            self.exactly(image.lattice.size == lattice.size, lattice in DISTRIBUTIVE)
            row, other = image.row, Plain(image.lattice)
            self.exactly((row[plain.bottom], row[plain.top]), (other.bottom, other.top))
            for x, y in itertools.product(plain.worths, repeat=2):
                self.exactly(row[plain.join[x][y]], other.join[row[x]][row[y]])
                self.exactly(row[plain.meet[x][y]], other.meet[row[x]][row[y]])

    def test_one_number_exactly_if_all_maps_lead_alike(self):
        for lattice in [lattice for lattice in LATTICES if lattice.size <= 8]:
            plain = Plain(lattice)
            maps = []
            for ones in itertools.product((0, 1), repeat=lattice.size):
                if (ones[plain.bottom], ones[plain.top]) == (0, 1) and all(
                        ones[plain.join[x][y]] == max(ones[x], ones[y]) and ones[plain.meet[x][y]] == min(ones[x], ones[y])
                        for x, y in itertools.product(plain.worths, repeat=2)):
                    maps.append(ones)
            row = firm_image(lattice).row
            for x, y in itertools.product(plain.worths, repeat=2):
                self.exactly(row[x] == row[y], all(ones[x] == ones[y] for ones in maps))

    def test_examples(self):
        self.exactly(firm_worths(pentagon_lattice()), (1, 3))
        self.exactly(firm_worths(diamond_lattice()), ())
        self.exactly(firm_worths(chain_lattice(1)), ())
        self.exactly(firm_worths(set_lattice(3)), (1, 2, 4))
        self.assertEqual(firm_image(pentagon_lattice()), Image(set_lattice(2), (0, 1, 1, 2, 3)))
        self.assertEqual(firm_image(diamond_lattice()), Image(chain_lattice(1), (0, 0, 0, 0, 0)))
        self.assertEqual(firm_image(set_lattice(3)), Image(set_lattice(3), tuple(range(8))))

    def test_a_result(self):
        image = Image(chain_lattice(1), (0,))
        self.assertEqual(image, Image(chain_lattice(1), (0,)))
        for other in (Image(chain_lattice(2), (0,)), Image(chain_lattice(1), (0, 0)), (chain_lattice(1), (0,)), None):
            self.assertNotEqual(image, other)
        things = [object(), [1]]
        self.assertIs(Image(*things).lattice, things[0])
        self.assertIs(Image(*things).row, things[1])


class TestOverTheProgram(Case):
    def shapes(self, lattice):
        shapes = some_shapes(lattice, "image", 20)
        return shapes + ([bar_game(lattice, root).shape for root in ("joins", "meets")] if lattice in OTHERS else [])

    def test_the_cut_keeps_the_firm_row(self):
        for lattice in LATTICES:
            row, plain = firm_image(lattice).row, Plain(lattice)
            for shape in self.shapes(lattice):
                self.exactly(row[cut_search(lattice, Tree(shape)).worth], row[plain.worth_of(shape)])

    def test_an_asking_that_is_done_keeps_the_firm_row(self):
        apart = 0
        for lattice in LATTICES:
            row, plain, draw = firm_image(lattice).row, Plain(lattice), random.Random(lattice.size)
            for shape in self.shapes(lattice):
                for many in (0, 3, 100):
                    asking = Asking(lattice, Tree(shape))
                    run_asking(asking, [draw.randrange(100) for _ in range(many)])
                    finish_asking(asking)
                    low, high = asking.root_bounds()
                    self.exactly((row[low], row[high]), (row[plain.worth_of(shape)],) * 2)
                    apart += low != high
        self.assertTrue(apart > 3)

    def test_in_the_named_lattices(self):
        pentagon, diamond = firm_image(Lattice(PENTAGON)), firm_image(Lattice(DIAMOND))
        self.exactly(pentagon.row[1], pentagon.row[2])
        self.exactly((len(set(pentagon.row)), set(diamond.row)), (4, {0}))
