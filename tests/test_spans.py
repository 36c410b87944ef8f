"""Spans of positions [10.5] to [10.7]."""

import random

from cutworths.contexts import agree_under
from cutworths.errors import Apart, BadContext, NoLook, NoWorth
from cutworths.making import set_lattice
from cutworths.memory import Memory
from cutworths.spans import Spans, span_of
from tests.base import NO_NUMBERS, NO_SEQUENCES, Case
from tests.growing import DISTRIBUTIVE, LATTICES, Plain

BAD_CONTEXTS = ((), (1,), (0, 1, 1), (4, 0), (0, 4), (-1, 0)) + NO_SEQUENCES + tuple(
    (0, thing) for thing in NO_NUMBERS)


def position(number):
    """Some position."""
    return (("dot", "", "ant")[number % 3:] + ("",) * (number // 3), number % 2, number % 5)


class TestSpanOf(Case):
    def test_every_lattice(self):
        for lattice in LATTICES:
            plain = Plain(lattice)
            for context in plain.contexts():
                for worth in plain.worths:
                    alike = [other for other in plain.worths if plain.led(context, other) == plain.led(context, worth)]
                    wanted = (plain.all_of("meets", alike), plain.all_of("joins", alike))
                    self.exactly(span_of(lattice, context, worth), wanted)
                    if lattice in DISTRIBUTIVE:
                        within = [other for other in plain.worths
                                  if plain.table[wanted[0]][other] and plain.table[other][wanted[1]]]
                        self.exactly(within, alike)
            self.exactly(span_of(lattice, [plain.bottom, plain.top], 0), (0, 0))

    def test_refusals(self):
        lattice = set_lattice(2)
        for bad in BAD_CONTEXTS:
            self.refused(BadContext, {}, span_of, lattice, bad, 9)
        for worth in (-1, 4) + NO_NUMBERS:
            self.refused(NoWorth, {"worth": worth}, span_of, lattice, (0, 3), worth)


class TestSpans(Case):
    def test_all_methods_in_distributive_lattices(self):
        for lattice in DISTRIBUTIVE:
            plain = Plain(lattice)
            draw = random.Random(lattice.size)
            spans, own, taken = Spans(lattice), {}, {}
            self.assertIs(spans.lattice, lattice)
            whole = (plain.bottom, plain.top)
            for _ in range(150):
                place, context = position(draw.randrange(12)), draw.choice(plain.contexts())
                worth = draw.randrange(lattice.size)
                deed = draw.choice(("keep", "keep", "look", "look", "forget") if own else ("keep", "look"))
                if deed == "keep":
                    low, high = span_of(lattice, context, worth)
                    before = own.get(place, whole)
                    new = (plain.join[before[0]][low], plain.meet[before[1]][high])
                    if not plain.table[new[0]][new[1]]:
                        self.refused(Apart, {"low": new[0], "high": new[1]}, spans.keep_look, place, context, worth)
                    else:
                        self.exactly(spans.keep_look(place, draw.choice((context, list(context))), worth), new != before)
                        own[place] = new
                        taken.setdefault(place, []).append((context, worth))
                elif deed == "look":
                    low, high = own.get(place, whole)
                    fits = [one for one in plain.worths if plain.table[low][one] and plain.table[one][high]]
                    alike = len({plain.led(context, one) for one in fits}) == 1
                    self.exactly(spans.look_up(place, context), low if alike else None)
                    self.exactly(spans.look_up(place, list(context)), low if alike else None)
                else:
                    at = draw.randrange(len(own))
                    row = list(own.items())[at]
                    self.exactly(spans.forget_look(at), row)
                    del own[row[0]]
                    del taken[row[0]]
                self.exactly(spans.span_rows, tuple(own.items()))
                self.exactly(len(spans), len(own))
                self.exactly(spans.span_at(place), own.get(place, whole))
            for place, looks in taken.items():
                # The worths that fit all that was taken of a position are those of its span.
                low, high = own[place]
                fits = [worth for worth in plain.worths
                        if all(agree_under(lattice, context, worth, told) for context, told in looks)]
                self.exactly(fits, [worth for worth in plain.worths if plain.table[low][worth] and plain.table[worth][high]])

    def test_an_entry_that_has_not_changed(self):
        spans = Spans(set_lattice(2))
        self.exactly((spans.span_rows, len(spans), spans.span_at(position(1))), ((), 0, (0, 3)))
        self.exactly(spans.keep_look(position(1), (1, 1), 2), False)
        self.exactly((spans.span_rows, len(spans)), (((position(1), (0, 3)),), 1))
        self.exactly(spans.keep_look(position(2), (0, 1), 3), True)
        self.exactly(spans.keep_look(position(2), (0, 1), 1), False)
        self.exactly(spans.keep_look(position(1), (0, 2), 1), True)
        self.exactly(spans.span_rows, ((position(1), (0, 1)), (position(2), (1, 3))))
        self.exactly(spans.forget_look(0), (position(1), (0, 1)))
        self.exactly(spans.span_at(position(1)), (0, 3))
        self.exactly(spans.keep_look(position(1), (0, 3), 2), True)
        self.exactly(spans.span_rows, ((position(2), (1, 3)), (position(1), (2, 2))))

    def test_look_up(self):
        spans = Spans(set_lattice(2))
        self.exactly((spans.look_up(position(1), (0, 3)), spans.look_up(position(1), (2, 2)), len(spans)), (None, 0, 0))
        spans.keep_look(position(1), (0, 1), 3)
        self.exactly([spans.look_up(position(1), context) for context in ((0, 1), (2, 3), (0, 2), (0, 3), (2, 1), (0, 0))],
                     [1, 1, None, None, 1, 1])

    def test_a_position_is_known_by_all_its_parts(self):
        spans = Spans(set_lattice(2))
        cells = ("dot", "")
        spans.keep_look((cells, 0, 3), (0, 3), 2)
        for other in ((cells, 1, 3), (cells, 0, 2), (("", "dot"), 0, 3)):
            self.exactly(spans.span_at(other), (0, 3))
        self.exactly(spans.span_at((("dot", ""), 0, 3)), (2, 2))

    def test_apart(self):
        spans = Spans(set_lattice(2))
        spans.keep_look(position(1), (0, 3), 1)
        self.refused(Apart, {"low": 3, "high": 0}, spans.keep_look, position(1), (0, 3), 2)
        self.refused(Apart, {"low": 3, "high": 1}, spans.keep_look, position(1), (0, 2), 2)
        self.exactly(spans.span_rows, ((position(1), (1, 1)),))

    def test_refusals(self):
        spans = Spans(set_lattice(2))
        spans.keep_look(position(1), (0, 3), 1)
        for bad in BAD_CONTEXTS:
            self.refused(BadContext, {}, spans.keep_look, position(1), bad, 9)
            self.refused(BadContext, {}, spans.look_up, position(1), bad)
        for worth in (-1, 4) + NO_NUMBERS:
            self.refused(NoWorth, {"worth": worth}, spans.keep_look, position(1), (0, 3), worth)
        for at in (-1, 1, 10 ** 20) + NO_NUMBERS:
            self.refused(NoLook, {"at": at}, spans.forget_look, at)
        self.exactly(spans.span_rows, ((position(1), (1, 1)),))
        self.refused(NoLook, {"at": 0}, Spans(set_lattice(2)).forget_look, 0)


class TestBoth(Case):
    def test_spans_serve_wherever_a_memory_does(self):
        for lattice in DISTRIBUTIVE:
            plain = Plain(lattice)
            draw = random.Random(lattice.size)
            for room in (1, 3, 400):
                memory, spans = Memory(lattice, room, rule="by draw", picks=(2, 1, 0, 5)), Spans(lattice)
                true = {position(number): draw.randrange(lattice.size) for number in range(4)}
                for _ in range(60):
                    place, context = draw.choice(list(true)), draw.choice(plain.contexts())
                    alike = [worth for worth in plain.worths if agree_under(lattice, context, worth, true[place])]
                    told = draw.choice(alike)
                    memory.keep_look(place, context, told)
                    spans.keep_look(place, context, told)
                    if draw.random() < 0.2:
                        memory.forget_look(draw.randrange(len(memory)))
                    place, wanted = draw.choice(list(true)), draw.choice(plain.contexts())
                    one, other = memory.look_up(place, wanted), spans.look_up(place, wanted)
                    if one is not None:
                        self.exactly(agree_under(lattice, wanted, one, other), True)
                        self.exactly(agree_under(lattice, wanted, one, true[place]), True)
                    if other is not None:
                        self.exactly(agree_under(lattice, wanted, other, true[place]), True)
