"""Positions [5.1], [5.2]."""

import itertools

from cutworths.positions import exchanged_position, led_position, renamed_position, start_of
from tests.base import Case
from tests.games import plain_rules, random_rules, reached

POSITIONS = [((), 0, 0), (("dot", "", "ant"), 1, 3), (("", "", "", "king"), 0, 8), (("dot",) * 9, 1, 1)]


class TestPositions(Case):
    def test_start(self):
        self.exactly(start_of(plain_rules()), (("", "dot", "", "ant"), 1, 3))
        for seed in range(30):
            rules = random_rules(seed)
            self.exactly(start_of(rules), (rules.start, rules.side, rules.left))

    def test_exchanged(self):
        for cells, side, left in POSITIONS:
            self.exactly(exchanged_position((cells, side, left)), (cells, 1 - side, left))

    def test_led(self):
        self.exactly(led_position((("dot", "", "ant"), 1, 3), [1, 2, 0]), (("ant", "dot", ""), 1, 3))
        for seed in range(30):
            for cells, side, left in reached(random_rules(seed), 5):
                for order in itertools.islice(itertools.permutations(range(len(cells))), 0, None, 7):
                    led, *rest = led_position((cells, side, left), order)
                    self.exactly(rest, [side, left])
                    self.assertIs(type(led), tuple)
                    self.assertEqual([led[order[cell]] for cell in range(len(cells))], list(cells))

    def test_renamed(self):
        position = (("dot", "", "ant", "dot", "king"), 1, 2)
        for names, others, wanted in (
                (("dot", "ant"), ("ant", "dot"), ("ant", "", "dot", "ant", "king")), ([], [], position[0]),
                (["king"], ["x"], ("dot", "", "ant", "dot", "x")), (("dot",), ("ant",), ("ant", "", "ant", "ant", "king")),
                (("dot", "ant", "king"), ["ant", "king", "dot"], ("ant", "", "king", "ant", "dot")),
                (("cow", "dot"), ("dot", "cow"), ("cow", "", "ant", "cow", "king"))):
            self.exactly(renamed_position(position, names, others), (wanted, 1, 2))

    def test_nothing_is_changed(self):
        position, order, names = (("dot", "", "ant"), 1, 3), [2, 0, 1], ["dot", "ant"]
        led_position(position, order)
        renamed_position(position, names, order[:2])
        exchanged_position(position)
        self.exactly((position, order, names), ((("dot", "", "ant"), 1, 3), [2, 0, 1], ["dot", "ant"]))
