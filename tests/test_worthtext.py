"""The texts of lattices [2.7], [2.8]."""

import itertools

from cutworths.errors import BadLattice, BadLatticeText
from cutworths.lattices import Lattice
from cutworths.making import chain_lattice, diamond_lattice, pentagon_lattice, set_lattice
from cutworths.worthtext import lattice_text, read_lattice
from tests.base import Case, PENTAGON, SQUARE, TABLES, is_lattice_table, numbered_anew, tables_of


class TestWrite(Case):
    def test_some_texts(self):
        self.exactly(lattice_text(chain_lattice(1)), "1:")
        self.exactly(lattice_text(set_lattice(2)), "4: 0<1 0<2 1<3 2<3")
        self.exactly(lattice_text(pentagon_lattice()), "5: 0<1 0<3 1<2 2<4 3<4")
        self.exactly(lattice_text(diamond_lattice()), "5: 0<1 0<2 0<3 1<4 2<4 3<4")
        self.exactly(lattice_text(Lattice(numbered_anew(SQUARE, (2, 0, 3, 1)))), "4: 0<1 2<0 2<3 3<1")
        self.exactly(lattice_text(chain_lattice(12)), "12: 0<1 1<2 2<3 3<4 4<5 5<6 6<7 7<8 8<9 9<10 10<11")

    def test_the_couples_are_the_lower_covers(self):
        for table in TABLES:
            lattice = Lattice(table)
            couples = [(x, y) for y in range(len(table)) for x in lattice.covers_of(y)]
            wanted = " ".join([f"{len(table)}:"] + [f"{x}<{y}" for x, y in sorted(couples)])
            self.exactly(lattice_text(lattice), wanted)


class TestRead(Case):
    def test_every_text_is_read_back(self):
        for table in TABLES:
            self.assertEqual(read_lattice(lattice_text(Lattice(table))), Lattice(table))
        for size in (1, 2, 3, 4):
            for table in tables_of(size):
                if is_lattice_table(table):
                    self.assertEqual(read_lattice(lattice_text(Lattice(table))), Lattice(table))

    def test_couples_stand_in_any_order_and_more_than_once(self):
        for words in itertools.permutations(("0<1", "0<2", "1<3", "2<3")):
            self.assertEqual(read_lattice("4: " + " ".join(words)), set_lattice(2))
        self.assertEqual(read_lattice("4: 2<3 0<3 0<1 0<2 1<3 0<1 0<3 2<3"), set_lattice(2))
        self.assertEqual(read_lattice("3: 2<0 1<2"), read_lattice("3: 1<0 1<2 2<0"))

    def test_couples_lead_in_many_steps(self):
        self.assertEqual(read_lattice("16: " + " ".join(f"{x}<{x + 1}" for x in reversed(range(15)))),
                         chain_lattice(16))
        self.assertEqual(read_lattice("5: 3<4 1<2 0<3 2<4 0<1"), Lattice(PENTAGON))

    def test_what_is_no_text(self):
        for thing in (None, 4, True, b"1:", ["1:"], ("1:",), {}):
            self.refused(BadLatticeText, {"word": -1}, read_lattice, thing)

    def test_two_thousand_characters_are_the_most(self):
        chain = lattice_text(chain_lattice(11))
        self.assertEqual(len(chain + " 0<1" * 489), 2000)
        self.assertEqual(read_lattice(chain + " 0<1" * 489), chain_lattice(11))
        self.refused(BadLatticeText, {"word": -1}, read_lattice, chain + " 0<1" * 488 + " 9<10")
        self.refused(BadLatticeText, {"word": -1}, read_lattice, "2:" + " 0<1" * 500)
        self.refused(BadLatticeText, {"word": 1}, read_lattice, "1:" + " " * 1998)
        self.refused(BadLatticeText, {"word": -1}, read_lattice, "1:" + " " * 1999)
        self.refused(BadLatticeText, {"word": -1}, read_lattice, "x" * 2001)
        self.refused(BadLatticeText, {"word": 0}, read_lattice, "x" * 2000)

    def test_the_first_word(self):
        for word in ("", "4", ":", "0:", "17:", "04:", "00:", "-1:", "+4:", "4:0<1", "4::", "4 :", " 4:", ":4", "4;",
                     "x:", "4.0:", "1_0:", "\u0664:", "\u00b2:", "4:\n", "\t4:", "100:", "016:", "1e:", "0x4:", "44444:"):
            self.refused(BadLatticeText, {"word": 0}, read_lattice, word)
            self.refused(BadLatticeText, {"word": 0}, read_lattice, word + " 0<1 0<2 5 1<3")

    def test_sixteen_worths_are_the_most(self):
        self.assertEqual(read_lattice("1:"), chain_lattice(1))
        self.assertEqual(read_lattice(lattice_text(chain_lattice(16))), chain_lattice(16))
        self.refused(BadLatticeText, {"word": 0}, read_lattice, "17: 0<1")

    def test_other_words(self):
        for word in ("", "0", "0<", "<1", "<", "0<0", "3<3", "0<4", "4<0", "0<1<2", "0>1", "00<1", "0<01", "-1<0", "a<1",
                     "0<b", "0<1,", "0<\u0661", "0\t<1", "0<1\n", "0<+1", "0=1", "0<1.0", "0<100", "999<1000"):
            self.refused(BadLatticeText, {"word": 1}, read_lattice, f"4: {word}")
            self.refused(BadLatticeText, {"word": 3}, read_lattice, f"4: 0<1 0<2 {word} x 1<3")

    def test_two_blanks_make_an_empty_word(self):
        self.refused(BadLatticeText, {"word": 1}, read_lattice, "2:  0<1")
        self.refused(BadLatticeText, {"word": 2}, read_lattice, "2: 0<1 ")
        self.refused(BadLatticeText, {"word": 1}, read_lattice, "1: ")
        self.refused(BadLatticeText, {"word": 2}, read_lattice, "4: 0<1  0<2 1<3 2<3")

    def test_words_are_checked_ahead_of_the_table(self):
        self.refused(BadLatticeText, {"word": 3}, read_lattice, "2: 0<1 1<0 2<0")
        self.refused(BadLattice, {"what": "order", "at": (0, 1)}, read_lattice, "2: 0<1 1<0")

    def test_tables_that_are_no_lattice(self):
        self.refused(BadLattice, {"what": "order", "at": (0, 2)}, read_lattice, "4: 0<3 3<2 2<0")
        self.refused(BadLattice, {"what": "join", "at": (0, 1)}, read_lattice, "2:")
        self.refused(BadLattice, {"what": "join", "at": (1, 2)}, read_lattice, "3: 0<1 0<2")
        self.refused(BadLattice, {"what": "meet", "at": (0, 1)}, read_lattice, "3: 0<2 1<2")
        self.refused(BadLattice, {"what": "join", "at": (1, 2)}, read_lattice,
                     "6: 0<1 0<2 1<3 1<4 2<3 2<4 3<5 4<5")
