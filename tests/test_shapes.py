"""Distributive lattices, pentagons and diamonds [1.6] to [1.8], and of [0.10] what holds of results."""

import itertools

from cutworths.lattices import Lattice
from cutworths.shapes import Diamond, Pentagon, find_shape, is_distributive, is_shape
from tests.base import (Case, DIAMOND, DIAMOND_AND_TWO, FOUR_WIDE, GRID, HEXAGON, NO_NUMBERS, PENTAGON, SQUARE, TABLES,
                        TALL_DIAMOND, greatest_of, is_lattice_table, least_of, numbered_anew, spreads, tables_of)


def is_pentagon(table, low, lesser, greater, aside, high):
    return (table[lesser][greater] and lesser != greater
            and low == greatest_of(table, aside, lesser) == greatest_of(table, aside, greater)
            and high == least_of(table, aside, lesser) == least_of(table, aside, greater))


def is_diamond(table, low, *middle_and_high):
    *middle, high = middle_and_high
    couples = list(itertools.combinations(middle, 2))
    return (len(set(middle)) == 3 and all(least_of(table, x, y) == high for x, y in couples)
            and all(greatest_of(table, x, y) == low for x, y in couples))


def first_shape(table):
    """The word and attributes of what [1.8] says is found, or None."""
    triples = list(itertools.product(range(len(table)), repeat=3))
    for lesser, greater, aside in triples:
        row = (greatest_of(table, aside, lesser), lesser, greater, aside, least_of(table, aside, lesser))
        if is_pentagon(table, *row):
            return ("pentagon", row)
    for first, second, third in triples:
        row = (greatest_of(table, first, second), first, second, third, least_of(table, first, second))
        if first < second < third and is_diamond(table, *row):
            return ("diamond", row)
    return None


def told(shape):
    """A shape as first_shape tells it."""
    if isinstance(shape, Pentagon):
        return ("pentagon", (shape.low, shape.lesser, shape.greater, shape.aside, shape.high))
    if isinstance(shape, Diamond):
        return ("diamond", (shape.low, shape.first, shape.second, shape.third, shape.high))
    return shape


class TestResults(Case):
    def test_attributes_are_kept_and_not_checked(self):
        things = (object(), [1], "x", None, -7)
        shape = Pentagon(*things)
        for name, thing in zip(("low", "lesser", "greater", "aside", "high"), things):
            self.assertIs(getattr(shape, name), thing)
        shape = Diamond(*things)
        for name, thing in zip(("low", "first", "second", "third", "high"), things):
            self.assertIs(getattr(shape, name), thing)

    def test_attributes_are_passed_by_name(self):
        self.assertEqual(Pentagon(high=5, aside=4, greater=3, lesser=2, low=1), Pentagon(1, 2, 3, 4, 5))
        self.assertEqual(Diamond(high=5, third=4, second=3, first=2, low=1), Diamond(1, 2, 3, 4, 5))

    def test_equal_exactly_if_all_attributes_are(self):
        for make in (Pentagon, Diamond):
            self.assertTrue(make(0, 1, 2, 3, 4) == make(0, 1, 2, 3, 4))
            self.assertFalse(make(0, 1, 2, 3, 4) != make(0, 1, 2, 3, 4))
            for at in range(5):
                other = [0, 1, 2, 3, 4]
                other[at] = 9
                self.assertFalse(make(0, 1, 2, 3, 4) == make(*other))
                self.assertTrue(make(0, 1, 2, 3, 4) != make(*other))

    def test_no_other_thing_is_equal(self):
        for shape in (Pentagon(0, 1, 2, 3, 4), Diamond(0, 1, 2, 3, 4)):
            for thing in ((0, 1, 2, 3, 4), [0, 1, 2, 3, 4], None, 0, "", object()):
                self.assertFalse(shape == thing)
                self.assertTrue(shape != thing)
        self.assertFalse(Pentagon(0, 1, 2, 3, 4) == Diamond(0, 1, 2, 3, 4))
        self.assertFalse(Diamond(0, 1, 2, 3, 4) == Pentagon(0, 1, 2, 3, 4))


class TestShapes(Case):
    def check_table(self, table):
        lattice = Lattice(table)
        self.exactly(is_distributive(lattice), spreads(table))
        self.exactly(told(find_shape(lattice)), first_shape(table))
        self.assertEqual(find_shape(lattice) is None, is_distributive(lattice))

    def test_lattices_of_many_forms(self):
        for table in TABLES:
            self.check_table(table)

    def test_all_lattices_of_up_to_four_are_distributive(self):
        for size in (1, 2, 3, 4):
            for table in tables_of(size):
                if is_lattice_table(table):
                    self.assertIs(is_distributive(Lattice(table)), True)
                    self.assertIsNone(find_shape(Lattice(table)))

    def test_pentagons_and_diamonds_with_all_names(self):
        for order in itertools.permutations(range(5)):
            self.check_table(numbered_anew(PENTAGON, order))
            self.check_table(numbered_anew(DIAMOND, order))

    def test_the_least_of_several(self):
        self.assertEqual(told(find_shape(Lattice(PENTAGON))), ("pentagon", (0, 1, 2, 3, 4)))
        self.assertEqual(told(find_shape(Lattice(DIAMOND))), ("diamond", (0, 1, 2, 3, 4)))
        self.assertEqual(told(find_shape(Lattice(HEXAGON))), ("pentagon", (0, 1, 2, 3, 5)))
        self.assertEqual(told(find_shape(Lattice(FOUR_WIDE))), ("diamond", (0, 1, 2, 3, 5)))
        self.assertEqual(told(find_shape(Lattice(TALL_DIAMOND))), ("diamond", (1, 2, 3, 4, 5)))
        self.assertEqual(told(find_shape(Lattice(DIAMOND_AND_TWO))), first_shape(DIAMOND_AND_TWO))

    def test_which_things_are_shapes(self):
        for table in (PENTAGON, DIAMOND, SQUARE, HEXAGON, [[True]]):
            lattice = Lattice(table)
            for row in itertools.product(range(len(table)), repeat=5):
                self.exactly(is_shape(lattice, Pentagon(*row)), is_pentagon(table, *row))
                self.exactly(is_shape(lattice, Diamond(*row)), is_diamond(table, *row))

    def test_the_three_of_a_diamond_stand_in_any_order(self):
        for middle in itertools.permutations((2, 3, 4)):
            self.assertIs(is_shape(Lattice(TALL_DIAMOND), Diamond(1, *middle, 5)), True)
            self.assertIs(is_shape(Lattice(TALL_DIAMOND), Diamond(0, *middle, 5)), False)
            self.assertIs(is_shape(Lattice(TALL_DIAMOND), Diamond(1, *middle, 6)), False)

    def test_what_is_found_is_a_shape(self):
        for table in TABLES:
            shape = find_shape(Lattice(table))
            self.assertIs(is_shape(Lattice(table), shape), shape is not None)

    def test_other_things_are_no_shapes(self):
        for thing in ((0, 1, 2, 3, 4), [0, 1, 2, 3, 4], None, "pentagon", 3, object(), Lattice(SQUARE)):
            self.assertIs(is_shape(Lattice(PENTAGON), thing), False)

    def test_attributes_that_are_no_worths(self):
        for table, make in ((PENTAGON, Pentagon), (DIAMOND, Diamond)):
            lattice = Lattice(table)
            self.assertIs(is_shape(lattice, make(0, 1, 2, 3, 4)), True)
            for at in range(5):
                for thing in NO_NUMBERS + (-1, -5, 5, 0.0, 2.0, {}, object()):
                    row = [0, 1, 2, 3, 4]
                    row[at] = thing
                    self.assertIs(is_shape(lattice, make(*row)), False)
                row = [0, 1, 2, 3, 4]
                row[at] = float(at)
                self.assertIs(is_shape(lattice, make(*row)), False)
                row[at] = at - 5
                self.assertIs(is_shape(lattice, make(*row)), False)
            self.assertIs(is_shape(lattice, make(False, True, 2, 3, 4)), False)
            self.assertIs(is_shape(Lattice(GRID), make(0, 1, 2, 3, 4)), False)
