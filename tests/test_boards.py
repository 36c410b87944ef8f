"""Boards and chains [3.1], [3.2], and of [3.8] when boards are equal."""

import itertools

from cutworths.boards import Board, chains_of
from cutworths.errors import BadBoard, BadLength, NoArrow
from tests.base import Case, NO_NAMES, NO_NUMBERS, NO_SEQUENCES

ALL_EDGES = [(x, y) for x in range(6) for y in range(6) if x != y]


def all_chains(size, edges, length):
    """The chains of a length, straight from the definition."""
    return tuple(row for row in itertools.permutations(range(size), length)
                 if all(step in edges for step in zip(row, row[1:])))


class TestBoard(Case):
    def test_attributes(self):
        board = Board(3, [["go", [[2, 1], (0, 1), (2, 1), [0, 1]]], ("away", ())])
        self.exactly(board.size, 3)
        self.exactly(board.arrows, (("go", ((0, 1), (2, 1))), ("away", ())))
        self.exactly(Board(1, ()).arrows, ())
        self.exactly(Board(9, [("a", [(8, 0), (0, 8)])]).arrows, (("a", ((0, 8), (8, 0))),))

    def test_edges_ascend(self):
        self.exactly(Board(6, [("go", ALL_EDGES[23::-1])]).arrows, (("go", tuple(ALL_EDGES[:24])),))
        self.exactly(Board(6, [("go", ALL_EDGES[12:] + ALL_EDGES[:6])]).arrows,
                     (("go", tuple(ALL_EDGES[:6] + ALL_EDGES[12:])),))

    def test_what_is_passed_is_neither_kept_nor_changed(self):
        edges = [[1, 0], [0, 1], [1, 0]]
        arrows = [["go", edges]]
        board = Board(2, arrows)
        self.assertEqual(arrows, [["go", [[1, 0], [0, 1], [1, 0]]]])
        edges[0][1] = 5
        edges.pop()
        arrows[0][0] = "x"
        arrows.clear()
        self.exactly(board.arrows, (("go", ((0, 1), (1, 0))),))

    def test_sizes(self):
        for size in range(1, 10):
            self.exactly(Board(size, []).size, size)
        for size in NO_NUMBERS + (0, 10, -1, 2.0):
            self.refused(BadBoard, {"what": "size", "at": 0}, Board, size, [])
            self.refused(BadBoard, {"what": "size", "at": 0}, Board, size, None)

    def test_six_arrows_are_the_most(self):
        arrows = [(name, []) for name in "abcdef"]
        self.assertEqual(len(Board(1, arrows).arrows), 6)
        for thing in NO_SEQUENCES + (arrows + [("g", [])], arrows + [5]):
            self.refused(BadBoard, {"what": "arrows", "at": 0}, Board, 2, thing)

    def test_what_is_no_arrow(self):
        for thing in NO_SEQUENCES + ((), ("go",), ("go", [], []), ["go", (), 1]):
            self.refused(BadBoard, {"what": "arrow", "at": 0}, Board, 2, [thing])
            self.refused(BadBoard, {"what": "arrow", "at": 2}, Board, 2, [("a", []), ["b", ()], thing, 7])

    def test_names(self):
        for name in ("a", "z", "abcdefgh", "zzzzzzzz"):
            self.exactly(Board(1, [(name, [])]).arrows, ((name, ()),))
        for thing in NO_NAMES:
            self.refused(BadBoard, {"what": "name", "at": 0}, Board, 2, [(thing, [])])
            self.refused(BadBoard, {"what": "name", "at": 1}, Board, 2, [("a", []), [thing, 5]])
        self.refused(BadBoard, {"what": "name", "at": 2}, Board, 2, [("a", []), ("b", []), ("a", [(0, 1)])])

    def test_twenty_four_edges_are_the_most(self):
        self.exactly(len(Board(6, [("go", ALL_EDGES[:24])]).arrows[0][1]), 24)
        self.exactly(Board(2, [("go", [(0, 1)] * 24)]).arrows, (("go", ((0, 1),)),))
        for thing in NO_SEQUENCES + (ALL_EDGES[:25], [(0, 1)] * 25, [5] * 25):
            self.refused(BadBoard, {"what": "edges", "at": 0}, Board, 6, [("go", thing)])
            self.refused(BadBoard, {"what": "edges", "at": 1}, Board, 6, [("a", []), ("go", thing), 5])

    def test_what_is_no_edge(self):
        things = NO_SEQUENCES + ((), (0,), (0, 1, 2), (0, 0), (2, 2), (0, 3), (3, 0), (-1, 0), (0, -1), (0, True),
                                 (False, 1), ("0", 1), (0.0, 1), (0, 1.0), (None, 0), (0, 9))
        for thing in things:
            self.refused(BadBoard, {"what": "edge", "at": 0}, Board, 3, [("go", [thing])])
            self.refused(BadBoard, {"what": "edge", "at": 1}, Board, 3, [("a", []), ("go", [(0, 1), [2, 0], thing]), 5])

    def test_the_first_fault_is_told(self):
        faults = [("arrow", 5), ("name", ("a", 5)), ("edges", ("b", 5)), ("edge", ("c", [5]))]
        for one, other in itertools.permutations(faults, 2):
            self.refused(BadBoard, {"what": one[0], "at": 1}, Board, 3, [("a", []), one[1], other[1]])
        self.refused(BadBoard, {"what": "name", "at": 0}, Board, 3, [("A", 5)])
        self.refused(BadBoard, {"what": "name", "at": 1}, Board, 3, [("a", []), ("a", [(0, 0)])])
        self.refused(BadBoard, {"what": "edges", "at": 0}, Board, 3, [("a", [(0, 0)] * 25)])
        self.refused(BadBoard, {"what": "size", "at": 0}, Board, 0, 5)
        self.refused(BadBoard, {"what": "arrows", "at": 0}, Board, 3, [5] * 7)

    def test_equal_exactly_if_all_attributes_are(self):
        board = Board(3, [("go", [(0, 1), (1, 2)]), ("up", [])])
        self.assertTrue(board == Board(3, (["go", ([1, 2], [0, 1], [0, 1])], ["up", ()])))
        self.assertFalse(board != Board(3, (["go", ([1, 2], [0, 1])], ["up", ()])))
        for other in (Board(4, board.arrows), Board(3, board.arrows[:1]), Board(3, board.arrows[::-1]),
                      Board(3, [("so", [(0, 1), (1, 2)]), ("up", [])]), Board(3, [("go", [(0, 1)]), ("up", [])]),
                      (3, board.arrows), None, 3, "board", object()):
            self.assertFalse(board == other)
            self.assertTrue(board != other)


class TestChains(Case):
    def test_all_chains(self):
        boards = [(1, []), (2, [(0, 1)]), (3, [(0, 1), (1, 0), (1, 2)]), (4, [(0, 1), (1, 2), (2, 3), (3, 0)]),
                  (5, [(4, 3), (3, 2), (2, 1), (1, 0), (0, 4), (4, 0)]), (6, ALL_EDGES[:24]), (9, [(8, 0), (0, 8)]),
                  (9, [(x, x + 1) for x in range(8)] + [(x, x + 3) for x in range(6)])]
        for size, edges in boards:
            board = Board(size, [("other", [(0, size - 1)] if size > 1 else []), ("go", edges), ("none", [])])
            for length in (1, 2, 3, 4):
                self.exactly(chains_of(board, "go", length), all_chains(size, edges, length))
                self.exactly(chains_of(board, "none", length), all_chains(size, [], length))

    def test_a_single_cell_is_a_chain(self):
        self.exactly(chains_of(Board(3, [("go", [])]), "go", 1), ((0,), (1,), (2,)))
        self.exactly(chains_of(Board(3, [("go", [])]), "go", 2), ())

    def test_no_such_arrow(self):
        board = Board(2, [("go", [(0, 1)])])
        for thing in NO_NAMES + ("goo", "g", 0, ("go",), {}):
            self.refused(NoArrow, {"arrow": thing}, chains_of, board, thing, 1)
            self.refused(NoArrow, {"arrow": thing}, chains_of, board, thing, 0)
        self.refused(NoArrow, {"arrow": "go"}, chains_of, Board(2, []), "go", 1)

    def test_lengths(self):
        board = Board(2, [("go", [(0, 1)])])
        for thing in NO_NUMBERS + (0, 5, -1, 2.0):
            self.refused(BadLength, {"length": thing}, chains_of, board, "go", thing)
