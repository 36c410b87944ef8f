"""Bars and the errors of the cut [15.1] to [15.4]."""

import itertools
import random

from cutworths.bars import Wrong, bar_game, bar_tree, guarded_search, told_row, wrong_cut
from cutworths.cutting import cut_search, parent_search
from cutworths.errors import BadRoot, NotAShape
from cutworths.making import chain_lattice, diamond_lattice, pentagon_lattice, set_lattice
from cutworths.shapes import Diamond, Pentagon, find_shape, is_shape
from cutworths.trees import Tree
from tests.base import Case
from tests.growing import (DISTRIBUTIVE, LATTICES, OTHERS, SMALL, Plain, changing_shape, filled, leaf_rows,
                           some_shapes)
from tests.test_plans import NO_HOLDERS as NO_ROOTS

ROOTS = ("joins", "meets")


def own_bar(shape, root):
    """The shape of [15.1]."""
    if isinstance(shape, Diamond):
        p, q, r = shape.first, shape.second, shape.third
    elif root == "meets":
        p, q, r = shape.greater, shape.lesser, shape.aside
    else:
        p, q, r = shape.lesser, shape.greater, shape.aside
    if root == "meets":
        return ("meets", (p, ("joins", (q, ("meets", (r, shape.low))))))
    return ("joins", (p, ("meets", (q, ("joins", (r, ("meets", (p, shape.low))))))))


def own_cut(plain, shape):
    """What the search by contexts tells, the leaves asked, and the row of [15.4]."""
    numbers = iter(range(10 ** 6))
    asked, row = [], []

    def go(shape, context):
        if isinstance(shape, int):
            asked.append(next(numbers))
            row.append(shape)
            return shape
        sign, children = shape
        so_far = plain.start(sign)
        for child in children:
            inner = plain.inside(sign, context, so_far)
            if plain.parts(inner):
                so_far = plain.take(sign, so_far, go(child, inner))
            else:
                for _ in leaf_rows(child):
                    next(numbers)
                    row.append(plain.start(sign))
        return so_far
    if not plain.parts((plain.bottom, plain.top)):
        return plain.bottom, (), (plain.bottom,) * len(leaf_rows(shape))
    told = go(shape, (plain.bottom, plain.top))
    return told, tuple(asked), tuple(row)


def all_shapes(lattice):
    """All pentagons and diamonds of a lattice, from its definition."""
    plain = Plain(lattice)
    for low, x, y, z, high in itertools.product(plain.worths, repeat=5):
        if is_shape(lattice, Pentagon(low, x, y, z, high)):
            yield Pentagon(low, x, y, z, high)
        if is_shape(lattice, Diamond(low, x, y, z, high)):
            yield Diamond(low, x, y, z, high)


class TestBars(Case):
    def test_every_shape_of_small_lattices(self):
        many = 0
        for lattice in [lattice for lattice in SMALL if lattice in OTHERS]:
            plain = Plain(lattice)
            for shape in all_shapes(lattice):
                many += 1
                for root in ROOTS:
                    bar = bar_tree(lattice, shape, root)
                    self.assertIsInstance(bar, Tree)
                    self.exactly(bar.shape, own_bar(shape, root))
                    p, q = bar.worths[:2]
                    wrong = wrong_cut(lattice, bar)
                    self.assertIsInstance(wrong, Wrong)
                    if root == "meets":
                        self.exactly((wrong.told, wrong.worth, wrong.passed), (p, plain.meet[p][q], (3,)))
                    else:
                        self.exactly((wrong.told, wrong.worth, wrong.passed), (plain.join[p][q], p, (4,)))
                    self.exactly(wrong.worth, plain.worth_of(bar.shape))
        self.assertTrue(many > 20)

    def test_games(self):
        for lattice in LATTICES:
            for root in ROOTS:
                bar = bar_game(lattice, root)
                if lattice in DISTRIBUTIVE:
                    self.exactly(bar, None)
                else:
                    self.exactly(bar.shape, own_bar(find_shape(lattice), root))
                    self.assertIsNotNone(wrong_cut(lattice, bar))
            if lattice in OTHERS:
                self.assertEqual(bar_game(lattice), bar_game(lattice, "meets"))
                self.exactly(len(bar_game(lattice)), 4)
            self.exactly(bar_game(lattice) is None, lattice in DISTRIBUTIVE)

    def test_examples(self):
        diamond, pentagon = diamond_lattice(), pentagon_lattice()
        bar = bar_game(diamond)
        self.exactly(bar.shape, ("meets", (1, ("joins", (2, ("meets", (3, 0)))))))
        self.assertEqual(wrong_cut(diamond, bar), Wrong(1, 0, (3,)))
        self.exactly(cut_search(diamond, bar).passed, ((3, 3),))
        self.exactly(bar_game(diamond, "joins").shape, ("joins", (1, ("meets", (2, ("joins", (3, ("meets", (1, 0)))))))))
        self.exactly(bar_game(pentagon).shape, ("meets", (2, ("joins", (1, ("meets", (3, 0)))))))
        self.exactly(bar_game(pentagon, root="joins").shape,
                     ("joins", (1, ("meets", (2, ("joins", (3, ("meets", (1, 0)))))))))
        self.assertEqual(wrong_cut(pentagon, bar_game(pentagon)), Wrong(2, 1, (3,)))
        self.assertEqual(wrong_cut(pentagon, bar_game(pentagon, "joins")), Wrong(2, 1, (4,)))

    def test_refusals(self):
        diamond, pentagon = diamond_lattice(), pentagon_lattice()
        right = Diamond(0, 1, 2, 3, 4)
        no_shapes = (None, 3, (0, 1, 2, 3, 4), Pentagon(0, 1, 2, 3, 4), Diamond(0, 1, 1, 3, 4), Diamond(0, 1, 2, 3, 0),
                     Diamond(0, True, 2, 3, 4), Diamond(0, 1, 2, 5, 4), diamond)
        for shape in no_shapes:
            for root in ("meets", "joins", None):
                self.refused(NotAShape, {}, bar_tree, diamond, shape, root)
        self.refused(NotAShape, {}, bar_tree, pentagon, right, "meets")
        self.refused(NotAShape, {}, bar_tree, set_lattice(3), right, "meets")
        for root in NO_ROOTS:
            self.refused(BadRoot, {"root": root}, bar_tree, diamond, right, root)
            for lattice in (diamond, pentagon, set_lattice(2), chain_lattice(1)):
                self.refused(BadRoot, {"root": root}, bar_game, lattice, root)
        for order in itertools.permutations((1, 2, 3)):
            self.exactly(bar_tree(diamond, Diamond(0, *order, 4), "meets").worths, order + (0,))


class TestWrongCuts(Case):
    def test_in_every_lattice(self):
        wrongs = 0
        for lattice in LATTICES:
            plain, draw = Plain(lattice), random.Random(lattice.size)
            shapes = some_shapes(lattice, "wrong", 20)
            if lattice in OTHERS:
                shapes += [changing_shape(draw, lattice.size, 2, 6) for _ in range(80)]
            for shape in shapes:
                told, asked, _ = own_cut(plain, shape)
                worth = plain.worth_of(shape)
                wrong = wrong_cut(lattice, Tree(shape))
                if told == worth:
                    self.exactly(wrong, None)
                else:
                    wrongs += 1
                    passed = tuple(leaf for leaf in range(len(leaf_rows(shape))) if leaf not in asked)
                    self.exactly((wrong.told, wrong.worth, wrong.passed), (told, worth, passed))
                    self.assertIn(lattice, OTHERS)
        self.assertTrue(wrongs > 5, wrongs)

    def forms_of_three(self):
        """Forms of trees of at most three leaves, some with nodes of one child."""
        found = [0]
        for one, other, third in itertools.product(ROOTS, repeat=3):
            found.extend([(one, (0,)), (one, (0, 0)), (one, (0, 0, 0)), (one, ((other, (0,)), 0)),
                          (one, ((other, (0, 0)), 0)), (one, (0, (other, (0, 0)))), (one, ((other, (0,)), (third, (0, 0)))),
                          (one, ((other, (0, (third, (0,)))), 0)), (one, ((other, ((third, (0, 0)),)), 0)),
                          (one, (0, (other, ((third, (0,)), 0))))])
        return [Tree(shape) for shape in dict.fromkeys(found)]

    def test_three_leaves_are_never_wrong(self):
        forms = self.forms_of_three()
        for lattice in [lattice for lattice in SMALL if lattice in OTHERS][:3]:
            plain = Plain(lattice)
            for form in forms:
                for worths in itertools.product(plain.worths, repeat=len(form)):
                    self.exactly(wrong_cut(lattice, Tree(filled(form.shape, worths))), None)
        for lattice in LATTICES:
            draw = random.Random(lattice.size)
            for form in forms:
                worths = [draw.randrange(lattice.size) for _ in range(len(form))]
                self.exactly(wrong_cut(lattice, Tree(filled(form.shape, worths))), None)


class TestToldRows(Case):
    def test_in_every_lattice(self):
        for lattice in LATTICES:
            plain = Plain(lattice)
            shapes = some_shapes(lattice, "rows", 40)
            if lattice in OTHERS:
                shapes += [bar_game(lattice, root).shape for root in ROOTS]
            for shape in shapes:
                told, _, row = own_cut(plain, shape)
                self.exactly(told_row(lattice, Tree(shape)), row)
                self.exactly(plain.worth_of(filled(shape, row)), told)

    def test_examples(self):
        self.exactly(told_row(diamond_lattice(), bar_game(diamond_lattice())), (1, 2, 3, 4))
        self.exactly(told_row(diamond_lattice(), bar_game(diamond_lattice(), "joins")), (1, 2, 3, 1, 4))
        self.exactly(told_row(set_lattice(2), Tree(("joins", (3, ("meets", (1, 2)), 1)))), (3, 0, 0, 0))
        self.exactly(told_row(set_lattice(2), Tree(("meets", (0, ("joins", (1, 2)), 1)))), (0, 3, 3, 3))
        # Of nodes with one child the one that passes by counts, not one beneath it.
        self.exactly(told_row(set_lattice(2), Tree(("joins", (3, ("meets", (("meets", (2,)),)))))), (3, 0))
        self.exactly(told_row(chain_lattice(1), Tree(("meets", (0, 0)))), (0, 0))
        self.exactly(told_row(set_lattice(2), Tree(2)), (2,))


class TestGuarded(Case):
    def test_in_every_lattice(self):
        for lattice in LATTICES:
            plain = Plain(lattice)
            shapes = some_shapes(lattice, "guarded", 20)
            if lattice in OTHERS:
                shapes += [bar_game(lattice, root).shape for root in ROOTS]
            for shape in shapes:
                found = guarded_search(lattice, Tree(shape))
                search = cut_search if lattice in DISTRIBUTIVE else parent_search
                self.assertEqual(found, search(lattice, Tree(shape)))
                self.exactly(found.worth, plain.worth_of(shape))


class TestWrong(Case):
    def test_a_result(self):
        self.assertEqual(Wrong(1, 0, (3,)), Wrong(1, 0, (3,)))
        for other in (Wrong(0, 0, (3,)), Wrong(1, 1, (3,)), Wrong(1, 0, ()), (1, 0, (3,)), None):
            self.assertNotEqual(Wrong(1, 0, (3,)), other)
        things = [object(), [1], {}]
        for thing, name in zip(things, ("told", "worth", "passed")):
            self.assertIs(getattr(Wrong(*things), name), thing)
