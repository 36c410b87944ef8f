"""The rules of a game: kinds, move rules, ends, and what a play begins with."""

from cutworths.boards import Board, edges_of
from cutworths.checks import has_form, is_couple, is_name, is_sequence, is_sequence_of, is_whole, order_fault
from cutworths.errors import BadNames, BadOrder, BadRow, BadRules

# The first word of a form and its number of items.
MOVE_FORMS = (("pass", 2), ("place", 3), ("step", 3), ("take", 3), ("turn", 3))
CONDITION_FORMS = (("holds", 3), ("row", 4), ("gone", 2), ("stuck", 1), ("all", 2))

# So many "all" may stand within one another.
MOST_NESTED = 3


def _kept_kinds(kinds):
    """Return the kinds as they are kept, or raise BadRules."""
    if not is_sequence_of(kinds, 1, 6):
        raise BadRules("kinds", 0)
    kept = []
    for at, kind in enumerate(kinds):
        if not is_couple(kind) or not is_name(kind[0]) or not is_whole(kind[1], 0, 1):
            raise BadRules("kind", at)
        if kind[0] in [name for name, _ in kept]:
            raise BadRules("kind", at)
        kept.append(tuple(kind))
    return tuple(kept)


def _is_cell(board, thing):
    """Return whether the thing is a cell of the board."""
    return is_whole(thing, 0, board.size - 1)


def _kept_place(board, kind, cells):
    """Return the place of a kind as it is kept, None if its cells are wrong."""
    if not is_sequence(cells) or len(cells) == 0 or not all([_is_cell(board, cell) for cell in cells]):
        return None
    return ("place", kind, tuple(sorted(set(cells))))


def kept_move(board, names, rule):
    """Return the move rule as it is kept over a board and names of kinds, None if it is none."""
    if not has_form(rule, MOVE_FORMS):
        return None
    word, first = rule[0], rule[1]
    if word == "pass":
        return (word, first) if is_whole(first, 0, 1) else None
    if first not in names:
        return None
    third = rule[2]
    if word == "place":
        return _kept_place(board, first, third)
    if word == "turn":
        fits = third in names and third != first
    else:
        fits = edges_of(board, third) is not None
    return (word, first, third) if fits else None


def _kept_all(board, names, conditions, nested):
    """Return the "all" of conditions as it is kept, None if it is none."""
    if nested == 0 or not is_sequence_of(conditions, 0, 4):
        return None
    kept = tuple([kept_condition(board, names, inner, nested - 1) for inner in conditions])
    return None if None in kept else ("all", kept)


def kept_condition(board, names, condition, nested=MOST_NESTED):
    """Return the condition as it is kept, None if it is none with so many "all" within one another."""
    if not has_form(condition, CONDITION_FORMS):
        return None
    word = condition[0]
    if word == "all":
        return _kept_all(board, names, condition[1], nested)
    if word == "holds":
        fits = _is_cell(board, condition[1]) and condition[2] in names
    elif word == "row":
        fits = edges_of(board, condition[1]) is not None and condition[2] in names
        fits = fits and is_whole(condition[3], 1, 4)
    else:
        fits = word == "stuck" or condition[1] in names
    return tuple(condition) if fits else None


def _kept_end(board, names, end, worths):
    """Return the end as it is kept, None if it is none."""
    if not is_couple(end):
        return None
    condition = kept_condition(board, names, end[0])
    if condition is None or not is_whole(end[1], 0, worths - 1):
        return None
    return (condition, end[1])


def _kept_moves(board, names, moves):
    """Return the move rules as they are kept, or raise BadRules."""
    if not is_sequence_of(moves, 0, 8):
        raise BadRules("moves", 0)
    kept = tuple([kept_move(board, names, rule) for rule in moves])
    if None in kept:
        raise BadRules("move", kept.index(None))
    return kept


def _kept_ends(board, names, ends, worths):
    """Return the ends as they are kept, or raise BadRules."""
    if not is_sequence_of(ends, 0, 8):
        raise BadRules("ends", 0)
    kept = tuple([_kept_end(board, names, end, worths) for end in ends])
    if None in kept:
        raise BadRules("end", kept.index(None))
    return kept


def _are_worths(row, many, worths):
    """Return whether the row is a sequence of so many numbers below worths."""
    return is_sequence_of(row, many, many) and all([is_whole(worth, 0, worths - 1) for worth in row])


def _are_contents(board, names, start):
    """Return whether start is a sequence with a content for each cell."""
    if not is_sequence_of(start, board.size, board.size):
        return False
    return all([content == "" or content in names for content in start])


class Rules:
    """A board with kinds, move rules and ends, the last worths, and the start of a play."""

    def __init__(self, board, kinds, moves, ends, last, left, start, side, worths):
        if not is_whole(worths, 1, 16):
            raise BadRules("worths", 0)
        self.board = board
        self.kinds = _kept_kinds(kinds)
        names = [name for name, _ in self.kinds]
        self.moves = _kept_moves(board, names, moves)
        self.ends = _kept_ends(board, names, ends, worths)
        if not _are_worths(last, 3, worths):
            raise BadRules("last", 0)
        if not is_whole(left, 0, 8):
            raise BadRules("left", 0)
        if not _are_contents(board, names, start):
            raise BadRules("start", 0)
        if not is_whole(side, 0, 1):
            raise BadRules("side", 0)
        self.last = tuple(last)
        self.left = left
        self.start = tuple(start)
        self.side = side
        self.worths = worths

    def __eq__(self, other):
        return (isinstance(other, Rules) and self.board == other.board and self.kinds == other.kinds
                and self.moves == other.moves and self.ends == other.ends and self.last == other.last
                and self.left == other.left and self.start == other.start and self.side == other.side
                and self.worths == other.worths)

    @property
    def kind_names(self):
        """The names of the kinds, in their order."""
        return tuple([name for name, _ in self.kinds])


def side_of_kind(rules, kind):
    """Return the side of the kind of this name."""
    return rules.kinds[rules.kind_names.index(kind)][1]


def side_of_move(rules, rule):
    """Return the side of a move rule."""
    return rule[1] if rule[0] == "pass" else side_of_kind(rules, rule[1])


def exchanged_rules(rules):
    """Return the rules with the two sides exchanged."""
    kinds = [(name, 1 - side) for name, side in rules.kinds]
    moves = [("pass", 1 - rule[1]) if rule[0] == "pass" else rule for rule in rules.moves]
    last = (rules.last[0], rules.last[2], rules.last[1])
    side = 1 - rules.side
    return Rules(rules.board, kinds, moves, rules.ends, last, rules.left, rules.start, side, rules.worths)


def _retold_move(rule, order, kinds, arrows):
    """Return the move rule with its cells, kinds and arrows called anew."""
    word = rule[0]
    if word == "pass":
        return rule
    kind = kinds[rule[1]]
    if word == "place":
        return (word, kind, [order[cell] for cell in rule[2]])
    return (word, kind, kinds[rule[2]] if word == "turn" else arrows[rule[2]])


def _retold_condition(condition, order, kinds, arrows):
    """Return the condition with its cells, kinds and arrows called anew."""
    word = condition[0]
    if word == "all":
        return (word, [_retold_condition(inner, order, kinds, arrows) for inner in condition[1]])
    if word == "holds":
        return (word, order[condition[1]], kinds[condition[2]])
    if word == "row":
        return (word, arrows[condition[1]], kinds[condition[2]], condition[3])
    if word == "gone":
        return (word, kinds[condition[1]])
    return condition


def _retold_rules(rules, order, kinds, arrows):
    """Return the rules with a new number for each cell and a new name for each kind and arrow."""
    ways = [(arrows[name], [(order[one], order[other]) for one, other in edges])
            for name, edges in rules.board.arrows]
    moves = [_retold_move(rule, order, kinds, arrows) for rule in rules.moves]
    ends = [(_retold_condition(condition, order, kinds, arrows), worth) for condition, worth in rules.ends]
    named = [(kinds[name], side) for name, side in rules.kinds]
    contents = [""] * rules.board.size
    for cell, content in enumerate(rules.start):
        if content != "":
            contents[order[cell]] = kinds[content]
    board = Board(rules.board.size, ways)
    return Rules(board, named, moves, ends, rules.last, rules.left, contents, rules.side, rules.worths)


def led_cells(rules, order):
    """Return the rules in which each cell c is called order[c]."""
    index = order_fault(order, rules.board.size)
    if index is not None:
        raise BadOrder(index)
    kinds = {name: name for name in rules.kind_names}
    arrows = {name: name for name, _ in rules.board.arrows}
    return _retold_rules(rules, order, kinds, arrows)


def _are_new_names(names, many):
    """Return whether this is a sequence of so many unlike names."""
    if not is_sequence_of(names, many, many) or not all([is_name(name) for name in names]):
        return False
    return len(set(names)) == many


def renamed_rules(rules, kinds, arrows):
    """Return the rules with a new name for each kind and arrow, in their order."""
    if not _are_new_names(kinds, len(rules.kinds)):
        raise BadNames("kinds")
    if not _are_new_names(arrows, len(rules.board.arrows)):
        raise BadNames("arrows")
    new_kinds = {old: new for old, new in zip(rules.kind_names, kinds)}
    new_arrows = {arrow[0]: new for arrow, new in zip(rules.board.arrows, arrows)}
    return _retold_rules(rules, list(range(rules.board.size)), new_kinds, new_arrows)


def led_worths(rules, row, worths):
    """Return the rules in which row[w] stands for each worth w, with so many worths."""
    if not is_whole(worths, 1, 16) or not _are_worths(row, rules.worths, worths):
        raise BadRow()
    ends = [(condition, row[worth]) for condition, worth in rules.ends]
    last = [row[worth] for worth in rules.last]
    return Rules(rules.board, rules.kinds, rules.moves, ends, last, rules.left, rules.start, rules.side, worths)
