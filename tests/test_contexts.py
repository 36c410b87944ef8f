"""Contexts [7.1] to [7.8]."""

import itertools

from cutworths.contexts import (agree_under, check_context, context_in, ends_of, hangs, nested_context, nesting_fault,
                                parted_primes, plain_context, root_context, same_map, serves, turned_context, value_in)
from cutworths.errors import BadContext, NoSign, NoWorth
from cutworths.lattices import Lattice
from cutworths.making import pentagon_lattice, set_lattice, turned_lattice
from tests.base import NO_NUMBERS, NO_SEQUENCES, TABLES, Case, spreads
from tests.growing import LATTICES, SMALL, Plain

MIDDLE = [lattice for lattice in LATTICES if lattice.size <= 8]


def row_of(plain, context):
    """What a context leads each worth to."""
    return tuple(plain.led(context, worth) for worth in plain.worths)


class TestBasics(Case):
    def test_values(self):
        for lattice in MIDDLE:
            plain = Plain(lattice)
            self.exactly(root_context(lattice), (plain.bottom, plain.top))
            for context in plain.contexts():
                row = row_of(plain, context)
                self.exactly(tuple(value_in(lattice, context, worth) for worth in plain.worths), row)
                self.exactly(value_in(lattice, list(context), 0), row[0])
                self.exactly(check_context(lattice, context), context)
                self.exactly(check_context(lattice, list(context)), context)
                self.exactly(ends_of(lattice, context), (context[0], plain.join[context[0]][context[1]]))
                self.exactly(ends_of(lattice, context), (row[plain.bottom], row[plain.top]))
                self.exactly(hangs(lattice, context), len(set(row)) > 1)
                self.exactly(hangs(lattice, list(context)), not plain.table[context[1]][context[0]])
                for one, other in itertools.product(plain.worths, repeat=2):
                    self.exactly(agree_under(lattice, context, one, other), row[one] == row[other])

    def test_the_root_context_leads_each_worth_to_itself(self):
        for lattice in LATTICES:
            for worth in range(lattice.size):
                self.exactly(value_in(lattice, root_context(lattice), worth), worth)

    def test_same_map_and_equal_ends(self):
        for lattice in MIDDLE:
            plain = Plain(lattice)
            rows = {context: row_of(plain, context) for context in plain.contexts()}
            alike = True
            for one, other in itertools.product(rows, repeat=2):
                self.exactly(same_map(lattice, one, list(other)), rows[one] == rows[other])
                if ends_of(lattice, one) == ends_of(lattice, other) and rows[one] != rows[other]:
                    alike = False
            self.exactly(alike, spreads(lattice.table))

    def test_one_worth(self):
        lattice = set_lattice(0)
        self.exactly((root_context(lattice), hangs(lattice, (0, 0)), ends_of(lattice, (0, 0))), ((0, 0), False, (0, 0)))


class TestNesting(Case):
    def test_context_in(self):
        for lattice in MIDDLE:
            plain = Plain(lattice)
            for context, so_far in itertools.product(plain.contexts(), plain.worths):
                a, b = context
                self.exactly(context_in(lattice, "joins", context, so_far), (plain.join[a][plain.meet[b][so_far]], b))
                self.exactly(context_in(lattice, "meets", list(context), so_far), (a, plain.meet[b][so_far]))
                for sign, inner in (("joins", (so_far, plain.top)), ("meets", (plain.bottom, so_far))):
                    self.exactly(context_in(lattice, sign, context, so_far), nested_context(lattice, context, inner))

    def test_nested_context(self):
        for lattice in SMALL:
            plain = Plain(lattice)
            leads = True
            for outer, inner in itertools.product(plain.contexts(), repeat=2):
                nested = nested_context(lattice, outer, inner)
                self.exactly(nested, (plain.join[outer[0]][plain.meet[outer[1]][inner[0]]],
                                      plain.meet[outer[1]][inner[1]]))
                self.exactly(nested_context(lattice, list(outer), list(inner)), nested)
                for worth in plain.worths:
                    leads = leads and plain.led(nested, worth) == plain.led(outer, plain.led(inner, worth))
            self.exactly(leads, spreads(lattice.table))

    def test_plain_and_turned(self):
        for lattice in MIDDLE:
            plain = Plain(lattice)
            other = turned_lattice(lattice)
            rows = {context: row_of(plain, context) for context in plain.contexts()}
            couples = sum(plain.table[x][y] for x in plain.worths for y in plain.worths)
            if spreads(lattice.table):
                self.exactly(len(set(rows.values())), couples)
            else:
                self.assertGreater(len(set(rows.values())), couples)
            same = True
            for context in rows:
                a, b = context
                self.exactly(plain_context(lattice, context), (a, plain.join[a][b]))
                turned = turned_context(lattice, context)
                self.exactly(turned, (plain.join[a][b], a))
                self.exactly(turned_context(other, turned), plain_context(lattice, context))
                same = same and all(value_in(other, turned, worth) == rows[context][worth] for worth in plain.worths)
                if spreads(lattice.table):
                    self.exactly(same_map(lattice, context, plain_context(lattice, list(context))), True)
            self.exactly(same, spreads(lattice.table))

    def test_nesting_fault(self):
        for table in TABLES:
            lattice = Lattice(table)
            plain = Plain(lattice)
            join, meet = plain.join, plain.meet
            faults = ((s, r, v) for s in plain.worths for r in plain.worths for v in plain.worths
                      if meet[s][join[r][v]] != join[meet[s][r]][meet[s][v]])
            self.exactly(nesting_fault(lattice), next(faults, None))
            self.exactly(nesting_fault(lattice) is None, spreads(table))
        self.exactly(nesting_fault(pentagon_lattice()), (2, 1, 3))


class TestPrimesAndServing(Case):
    def test_parted_primes(self):
        for lattice in LATTICES:
            plain = Plain(lattice)
            for context in plain.contexts():
                a, b = context
                parted = parted_primes(lattice, context)
                self.exactly(parted, tuple(p for p in lattice.primes if plain.table[p][b] and not plain.table[p][a]))
                self.exactly(parted_primes(lattice, list(context)), parted)
                self.exactly(len(parted) > 0, hangs(lattice, context))

    def test_parted_primes_in_distributive_lattices(self):
        for lattice in MIDDLE:
            if not spreads(lattice.table):
                continue
            plain = Plain(lattice)
            for context in plain.contexts():
                parted = parted_primes(lattice, context)
                for one, other in itertools.product(plain.worths, repeat=2):
                    alike = all(plain.table[p][one] == plain.table[p][other] for p in parted)
                    self.exactly(agree_under(lattice, context, one, other), alike)
                for so_far in plain.worths:
                    at_most = tuple(p for p in parted if plain.table[p][so_far])
                    others = tuple(p for p in parted if not plain.table[p][so_far])
                    self.exactly(parted_primes(lattice, context_in(lattice, "joins", context, so_far)), others)
                    self.exactly(parted_primes(lattice, context_in(lattice, "meets", context, so_far)), at_most)

    def test_serves(self):
        for lattice in SMALL:
            plain = Plain(lattice)
            rows = {context: row_of(plain, context) for context in plain.contexts()}
            for kept, wanted in itertools.product(rows, repeat=2):
                (a, b), (c, d) = kept, wanted
                told = None
                if not plain.table[plain.meet[d][a]][c]:
                    told = (plain.bottom, a)
                elif not plain.table[d][plain.join[c][b]]:
                    told = (b, plain.top)
                self.exactly(serves(lattice, kept, wanted), told)
                self.exactly(serves(lattice, list(kept), list(wanted)), told)
                if told is not None:
                    self.exactly(rows[kept][told[0]], rows[kept][told[1]])
                    self.assertNotEqual(rows[wanted][told[0]], rows[wanted][told[1]])
                if spreads(lattice.table):
                    right = all(rows[wanted][x] == rows[wanted][y] for x in plain.worths for y in plain.worths
                                if rows[kept][x] == rows[kept][y])
                    self.exactly(told is None, right)
                    within = set(parted_primes(lattice, wanted)) <= set(parted_primes(lattice, kept))
                    self.exactly(told is None, within)

    def test_the_example(self):
        lattice = set_lattice(2)
        self.exactly([value_in(lattice, (0, 1), worth) for worth in range(4)], [0, 1, 0, 1])
        self.exactly(serves(lattice, (0, 1), (0, 3)), (1, 3))


class TestRefusals(Case):
    def bad_contexts(self, size):
        """Things that are no contexts of a lattice of so many worths."""
        found = [(), (1,), (0, 1, 1), [0], (size, 0), (0, size), (-1, 0), (0, -1), ((0, 1), 0), ("0", "1")]
        return found + list(NO_SEQUENCES) + [(thing, 0) for thing in NO_NUMBERS] + [[0, thing] for thing in NO_NUMBERS]

    def test_bad_contexts(self):
        lattice = set_lattice(2)
        good = (0, 3)
        for bad in self.bad_contexts(4):
            calls = [(check_context, (bad,)), (value_in, (bad, 1)), (ends_of, (bad,)), (hangs, (bad,)),
                     (same_map, (bad, good)), (same_map, (good, bad)), (context_in, ("joins", bad, 1)),
                     (nested_context, (bad, good)), (nested_context, (good, bad)), (plain_context, (bad,)),
                     (turned_context, (bad,)), (parted_primes, (bad,)), (agree_under, (bad, 1, 1)),
                     (serves, (bad, good)), (serves, (good, bad))]
            for call, rest in calls:
                self.refused(BadContext, {}, call, lattice, *rest)

    def test_no_worths(self):
        lattice = set_lattice(2)
        for worth in (-1, 4, 10 ** 20) + NO_NUMBERS:
            told = {"worth": worth}
            self.refused(NoWorth, told, value_in, lattice, (0, 3), worth)
            self.refused(NoWorth, told, context_in, lattice, "meets", (0, 3), worth)
            self.refused(NoWorth, told, agree_under, lattice, (0, 3), worth, 1)
            self.refused(NoWorth, told, agree_under, lattice, (0, 3), 1, worth)

    def test_no_signs(self):
        for sign in ("join", "", "Joins", "meet", 0, 1, None, True, b"joins", ("joins",), ["meets"], {"joins": 1}):
            self.refused(NoSign, {"sign": sign}, context_in, set_lattice(2), sign, (0, 3), 1)

    def test_two_faults_at_once(self):
        lattice = set_lattice(2)
        self.refused(NoSign, {"sign": "x"}, context_in, lattice, "x", (0, 4), 4)
        self.refused(BadContext, {}, context_in, lattice, "joins", (0, 4), 4)
        self.refused(BadContext, {}, value_in, lattice, (0, 4), 4)
        self.refused(BadContext, {}, agree_under, lattice, (0, 4), 4, 5)
        self.refused(NoWorth, {"worth": 4}, agree_under, lattice, (0, 3), 4, 5)
