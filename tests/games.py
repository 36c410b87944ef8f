"""Games for the tests, and what can be played in them, worked out without the program's own functions."""

import itertools
import random

from cutworths.boards import Board
from cutworths.rules import Rules

PARTS = ("board", "kinds", "moves", "ends", "last", "left", "start", "side", "worths")


def parts_of(rules):
    """The arguments from which the rules are made, by name."""
    return {name: getattr(rules, name) for name in PARTS}


def changed(rules, **changes):
    """The rules with some arguments changed."""
    return Rules(**{**parts_of(rules), **changes})


def plain_parts():
    """Arguments that fit, with every form of move rule and condition, made anew each time."""
    return {
        "board": Board(4, [("go", [(0, 1), (1, 2), (2, 3)]), ("back", [(3, 0), (2, 1)])]),
        "kinds": [("dot", 0), ["ant", 1], ("king", 0)],
        "moves": [("pass", 1), ["place", "dot", [3, 0, 3]], ("step", "dot", "go"), ["take", "ant", "back"],
                  ("turn", "dot", "king")],
        "ends": [(("holds", 2, "dot"), 3), [["row", "go", "dot", 2], 1], (("gone", "ant"), 0), (["stuck"], 2),
                 (("all", [("gone", "dot"), ["all", ()], ("all", [("all", [("stuck",)])])]), 3)],
        "last": [0, 3, 1],
        "left": 3,
        "start": ["", "dot", "", "ant"],
        "side": 1,
        "worths": 4,
    }


def plain_rules(**changes):
    """The rules of the plain parts, with some arguments changed."""
    return Rules(**{**plain_parts(), **changes})


def random_condition(draw, cells, arrows, kinds, nested=3):
    """Some condition over these names."""
    words = ["holds", "gone", "stuck"] + (["row"] * 2 if arrows else []) + (["all"] if nested else [])
    word = draw.choice(words)
    if word == "holds":
        return ("holds", draw.randrange(cells), draw.choice(kinds))
    if word == "row":
        return ("row", draw.choice(arrows), draw.choice(kinds), draw.randint(1, 3))
    if word == "gone":
        return ("gone", draw.choice(kinds))
    if word == "stuck":
        return ("stuck",)
    return ("all", [random_condition(draw, cells, arrows, kinds, nested - 1) for _ in range(draw.randrange(4))])


def random_move(draw, cells, arrows, kinds):
    """Some move rule over these names."""
    words = ["pass", "place", "place"] + (["step", "step", "take", "take"] if arrows else [])
    word = draw.choice(words + (["turn", "turn"] if len(kinds) > 1 else []))
    if word == "pass":
        return ("pass", draw.randrange(2))
    if word == "place":
        return ("place", draw.choice(kinds), [draw.randrange(cells) for _ in range(draw.randint(1, 3))])
    if word == "turn":
        return ("turn",) + tuple(draw.sample(kinds, 2))
    return (word, draw.choice(kinds), draw.choice(arrows))


def random_rules(seed):
    """Some rules, always the same for a seed."""
    draw = random.Random(seed)
    cells = draw.randint(1, 5)
    arrows = ["go", "up", "on"][:draw.randrange(4)] if cells > 1 else []
    edges = list(itertools.permutations(range(cells), 2))
    ways = [(name, draw.sample(edges, draw.randint(0, min(len(edges), 6)))) for name in arrows]
    kinds = ["dot", "ant", "king", "cat"][:draw.randint(1, 4)]
    worths = draw.randint(1, 16)
    moves = [random_move(draw, cells, arrows, kinds) for _ in range(draw.randint(0, 6))]
    ends = [(random_condition(draw, cells, arrows, kinds), draw.randrange(worths)) for _ in range(draw.randint(0, 4))]
    start = [draw.choice(["", ""] + kinds) for _ in range(cells)]
    return Rules(Board(cells, ways), [(kind, draw.randrange(2)) for kind in kinds], moves, ends,
                 [draw.randrange(worths) for _ in range(3)], draw.randint(0, 4), start, draw.randrange(2), worths)


def own_moves_by(rules, cells, rule):
    """The moves of one move rule, sorted, straight from [5.3]."""
    sides = dict(rules.kinds)
    arrows = dict(rules.board.arrows)
    word = rule[0]
    places = range(len(cells))
    if word == "pass":
        return [("pass",)]
    kind = rule[1]
    if word == "place":
        return sorted(("place", kind, cell) for cell in rule[2] if cells[cell] == "")
    if word == "turn":
        return sorted(("turn", kind, cell, rule[2]) for cell in places if cells[cell] == kind)
    found = []
    for one, other in arrows[rule[2]]:
        empty = cells[other] == ""
        prey = not empty and sides[cells[other]] != sides[kind]
        if cells[one] == kind and (empty if word == "step" else prey):
            found.append((word, kind, one, other))
    return sorted(found)


def own_moves(rules, position):
    """The moves of the side to move."""
    cells, side, _ = position
    sides = dict(rules.kinds)
    found = set()
    for rule in rules.moves:
        if (rule[1] if rule[0] == "pass" else sides[rule[1]]) == side:
            found.update(own_moves_by(rules, cells, rule))
    return tuple(sorted(found))


def own_behind(position, move):
    """The position behind a move."""
    cells, side, left = list(position[0]), position[1], position[2]
    if move[0] == "place":
        cells[move[2]] = move[1]
    if move[0] == "turn":
        cells[move[2]] = move[3]
    if move[0] in ("step", "take"):
        cells[move[2]], cells[move[3]] = "", move[1]
    return (tuple(cells), 1 - side, left - 1)


def own_holds(rules, position, condition):
    """Whether a condition holds."""
    cells = position[0]
    word = condition[0]
    if word == "holds":
        return cells[condition[1]] == condition[2]
    if word == "gone":
        return all(content != condition[1] for content in cells)
    if word == "stuck":
        return own_moves(rules, position) == ()
    if word == "all":
        return all(own_holds(rules, position, inner) for inner in condition[1])
    edges = dict(rules.board.arrows)[condition[1]]
    return any(all(cells[cell] == condition[2] for cell in chain) and all(way in edges for way in zip(chain, chain[1:]))
               for chain in itertools.permutations(range(len(cells)), condition[3]))


def own_end(rules, position):
    """Why a position is over, or None."""
    for number, (condition, _) in enumerate(rules.ends):
        if own_holds(rules, position, condition):
            return ("end", number)
    if position[2] == 0:
        return ("none",)
    return ("still", position[1]) if own_moves(rules, position) == () else None


def own_worth(rules, position):
    """The worth of a position that is over, or None."""
    end = own_end(rules, position)
    if end is None:
        return None
    return {"end": lambda: rules.ends[end[1]][1], "none": lambda: rules.last[0],
            "still": lambda: rules.last[1 + end[1]]}[end[0]]()


def reached(rules, most=150, through_ends=False):
    """Positions that a play can reach, at most so many, the start first."""
    start = (rules.start, rules.side, rules.left)
    found = {start: True}
    waiting = [start]
    while waiting and len(found) < most:
        position = waiting.pop(0)
        if position[2] == 0 or (own_end(rules, position) is not None and not through_ends):
            continue
        for move in own_moves(rules, position):
            behind = own_behind(position, move)
            if behind not in found:
                found[behind] = True
                waiting.append(behind)
    return list(found)


def own_next(rules, position):
    """The positions behind the open moves, in their order."""
    if own_end(rules, position) is not None:
        return []
    return [own_behind(position, move) for move in own_moves(rules, position)]


def own_count(rules, position, most):
    """The number of plays from a position, at least `most` if there are as many or more."""
    if own_end(rules, position) is not None:
        return 1
    many = 0
    for behind in own_next(rules, position):
        many += own_count(rules, behind, most - many)
        if many >= most:
            break
    return many


def own_plays(rules, position, road=()):
    """The couples (road, end worth) of all plays, from the left."""
    if own_end(rules, position) is not None:
        return [(road, own_worth(rules, position))]
    return [play for at, behind in enumerate(own_next(rules, position))
            for play in own_plays(rules, behind, road + (at,))]


def own_shape(rules, position):
    """The shape of the tree of a game."""
    if own_end(rules, position) is not None:
        return own_worth(rules, position)
    return (("joins", "meets")[position[1]], tuple(own_shape(rules, behind) for behind in own_next(rules, position)))


def small_games(seeds, most, least=1):
    """The couples (rules, start) of random games of least to most plays, their worths up to 16."""
    found = []
    for seed in seeds:
        rules = random_rules(seed)
        start = (rules.start, rules.side, rules.left)
        if least <= own_count(rules, start, most + 1) <= most:
            found.append((rules, start))
    return found


def lively_rules(seed, worths):
    """Some rules with moves for both sides and several plays, always the same for a seed."""
    draw = random.Random(f"lively {seed}")
    cells = draw.randint(3, 5)
    edges = list(itertools.permutations(range(cells), 2))
    ways = [(name, draw.sample(edges, draw.randint(2, 5))) for name in ("go", "up")]
    kinds = [("dot", 0), ("king", 0), ("ant", 1), ("cat", 1)]
    moves = []
    for one, other in (("dot", "king"), ("ant", "cat")):
        moves.append(("place", one, [draw.randrange(cells) for _ in range(draw.randint(1, 4))]))
        moves.append(draw.choice([("turn", one, other), ("turn", other, one), ("place", other, [draw.randrange(cells)]),
                                  ("step", one, "go"), ("take", one, "up"), ("pass", dict(kinds)[one])]))
        moves.append(draw.choice([("step", one, "up"), ("take", one, "go"), ("turn", one, other), ("step", other, "go")]))
    draw.shuffle(moves)
    ends = [(("all", [("holds", draw.randrange(cells), draw.choice(["dot", "king"])),
                      random_condition(draw, cells, ["go", "up"], ["ant", "cat"], 1)]), draw.randrange(worths))
            for _ in range(draw.randint(2, 8))]
    start = [draw.choice(["", "", "dot", "ant", "king", "cat"]) for _ in range(cells)]
    return Rules(Board(cells, ways), kinds, moves, ends, [draw.randrange(worths) for _ in range(3)], draw.randint(2, 5),
                 start, draw.randrange(2), worths)


def lively_games(worths, many, most=300, least=8, unlike=3):
    """The couples (rules, start) of the first so many lively games of least to most plays with so many unlike ends."""
    found, seed = [], 0
    while len(found) < many:
        rules = lively_rules(seed, worths)
        start = (rules.start, rules.side, rules.left)
        if least <= own_count(rules, start, most + 1) <= most:
            if len(set(worth for _, worth in own_plays(rules, start))) >= unlike:
                found.append((rules, start))
        seed += 1
    return found
