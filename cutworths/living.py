"""What can come up in a play at all, and rules without what cannot."""

from cutworths.boards import chains_of, edges_of
from cutworths.errors import BadCondition
from cutworths.rules import Rules, kept_condition, side_of_kind


def living_kinds(rules):
    """Return the names of the kinds that stand at the start or can come onto the board, ascending."""
    living = {content: True for content in rules.start if content != ""}
    for rule in rules.moves:
        if rule[0] == "place":
            living[rule[1]] = True
    # Each round that finds anything makes one more kind live, so this many rounds find all.
    for _ in rules.kinds:
        for rule in rules.moves:
            if rule[0] == "turn" and rule[1] in living:
                living[rule[2]] = True
    return tuple(sorted(living))


def _has_prey(rules, kind, living):
    """Return whether a kind of the other side is living."""
    side = side_of_kind(rules, kind)
    return any([side_of_kind(rules, other) != side for other in living])


def _is_idle(rules, rule, living):
    """Return whether a move rule can give no move."""
    word = rule[0]
    if word == "pass" or word == "place":
        return False
    if rule[1] not in living:
        return True
    if word == "turn":
        return False
    if len(edges_of(rules.board, rule[2])) == 0:
        return True
    return word == "take" and not _has_prey(rules, rule[1], living)


def idle_moves(rules):
    """Return the numbers of the idle move rules, ascending."""
    living = living_kinds(rules)
    return tuple([at for at, rule in enumerate(rules.moves) if _is_idle(rules, rule, living)])


def _sure_of_stuck(rules):
    """Return what is sure of the condition "stuck"."""
    if len(idle_moves(rules)) == len(rules.moves):
        return "always"
    if ("pass", 0) in rules.moves and ("pass", 1) in rules.moves:
        return "never"
    return None


def _sure_of_row(rules, arrow, kind, length):
    """Return what is sure of a row."""
    if kind not in living_kinds(rules) or len(chains_of(rules.board, arrow, length)) == 0:
        return "never"
    return None


def _sure_of_kept(rules, condition):
    """Return what is sure of a condition as the rules keep it."""
    word = condition[0]
    if word == "all":
        parts = [_sure_of_kept(rules, inner) for inner in condition[1]]
        if "never" in parts:
            return "never"
        return None if None in parts else "always"
    if word == "holds":
        return None if condition[2] in living_kinds(rules) else "never"
    if word == "row":
        return _sure_of_row(rules, condition[1], condition[2], condition[3])
    if word == "gone":
        return None if condition[1] in living_kinds(rules) else "always"
    return _sure_of_stuck(rules)


def sure_of(rules, condition):
    """Return "always", "never" or None: what is sure of a condition in every play."""
    kept = kept_condition(rules.board, rules.kind_names, condition)
    if kept is None:
        raise BadCondition()
    return _sure_of_kept(rules, kept)


def _trimmed_ends(rules):
    """Return the ends that can be due, none behind one that always is."""
    kept = []
    for end in rules.ends:
        sure = sure_of(rules, end[0])
        if sure != "never":
            kept.append(end)
        if sure == "always":
            break
    return kept


def trimmed_rules(rules):
    """Return the rules without idle move rules and without ends that are never due."""
    idle = idle_moves(rules)
    moves = [rule for at, rule in enumerate(rules.moves) if at not in idle]
    return Rules(rules.board, rules.kinds, moves, _trimmed_ends(rules), rules.last, rules.left,
                 rules.start, rules.side, rules.worths)
