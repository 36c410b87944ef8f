"""Webs: all positions that a game can reach, each once, with what they are worth."""

from cutworths.checks import is_whole
from cutworths.ends import end_worth, next_positions
from cutworths.errors import NoNumber, NotInWeb, TooMany
from cutworths.lattices import gathered
from cutworths.positions import sign_at

_MOST_POSITIONS = 400


def _reached_from(rules, position):
    """Return the next positions of each position of the web, in the order of the numbers, or raise TooMany."""
    nexts = {}
    level = [position]
    while level:
        if len(nexts) + len(level) > _MOST_POSITIONS:
            raise TooMany(_MOST_POSITIONS)
        for reached in level:
            nexts[reached] = next_positions(rules, reached)
        # Each move leaves one fewer, so no position stands in two levels.
        level = sorted(set([behind for reached in level for behind in nexts[reached]]))
    return nexts


class Web:
    """The positions that are reached from one, itself first."""

    def __init__(self, rules, position):
        nexts = _reached_from(rules, position)
        numbers = {reached: number for number, reached in enumerate(nexts)}
        self.positions = tuple(nexts)
        self.nexts = tuple([tuple([numbers[behind] for behind in nexts[reached]]) for reached in nexts])
        self.ends = tuple([end_worth(rules, reached) for reached in nexts])

    def __len__(self):
        return len(self.positions)

    @property
    def levels(self):
        """The numbers of the positions with as many moves left, for each such number from the greatest down."""
        lefts = [position[2] for position in self.positions]
        return tuple([tuple([number for number, left in enumerate(lefts) if left == many])
                      for many in sorted(set(lefts))[::-1]])

    def number_of(self, position):
        """Return a position's number, or raise NotInWeb."""
        for number, reached in enumerate(self.positions):
            if reached == position:
                return number
        raise NotInWeb(position)


def _worth_in(lattice, web, number, worths):
    """Return the worth of a position by the worths of its next positions."""
    if web.ends[number] is not None:
        return web.ends[number]
    return gathered(lattice, sign_at(web.positions[number]), [worths[behind] for behind in web.nexts[number]])


def web_worths(lattice, web):
    """Return the worth of each position."""
    worths = [None] * len(web)
    for number in reversed(range(len(web))):
        worths[number] = _worth_in(lattice, web, number, worths)
    return tuple(worths)


def worth_by_positions(lattice, rules, position):
    """Return the worth of a position by its web, or raise TooMany."""
    return web_worths(lattice, Web(rules, position))[0]


def ways_to(web):
    """Return for each position the number of roads that lead to it."""
    ways = [0] * len(web)
    ways[0] = 1
    for number, nexts in enumerate(web.nexts):
        for behind in nexts:
            ways[behind] = ways[behind] + ways[number]
    return tuple(ways)


def plays_from(web):
    """Return for each position the number of plays from it, 1 if it is over."""
    plays = [1] * len(web)
    for number in reversed(range(len(web))):
        if web.ends[number] is None:
            plays[number] = sum([plays[behind] for behind in web.nexts[number]])
    return tuple(plays)


def count_plays(rules, position):
    """Return the number of plays from a position, or raise TooMany if its web is too large."""
    return plays_from(Web(rules, position))[0]


class Settling:
    """The worths of a web's positions, worked out in any order."""

    def __init__(self, lattice, web):
        self.lattice = lattice
        self.web = web
        self._worths = [None] * len(web)
        self._order = []

    @property
    def settled_order(self):
        """The numbers of the settled positions in the order in which they were settled."""
        return tuple(self._order)

    @property
    def is_done(self):
        """Whether all positions are settled."""
        return len(self._order) == len(self._worths)

    def settle_one(self, number):
        """Return the worth of a position, settled behind its next positions, or raise NoNumber."""
        if not is_whole(number, 0, len(self._worths) - 1):
            raise NoNumber(number)
        if self._worths[number] is None:
            for behind in self.web.nexts[number]:
                self.settle_one(behind)
            self._worths[number] = _worth_in(self.lattice, self.web, number, self._worths)
            self._order.append(number)
        return self._worths[number]

    def _is_ready(self, number):
        """Return whether a position is not settled but its next positions all are."""
        behind = [self._worths[following] for following in self.web.nexts[number]]
        return self._worths[number] is None and None not in behind

    def ready_now(self):
        """Return the positions that are not settled but whose next positions all are."""
        return tuple([number for number in range(len(self._worths)) if self._is_ready(number)])
