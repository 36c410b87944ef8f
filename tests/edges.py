"""Games whose plays or positions are exactly as many as a limit allows, or one more."""

from cutworths.ruletext import read_rules

PLAYS_4000 = """worths 4
cells 9
kind a 0
kind b 0
kind c 1
kind d 1
move place b 3 4
move pass 1
move turn b d
move place b 8
move pass 1
move turn d b
none 0
still 1 2
left 7
start c d b . c b . . d
side 1"""

PLAYS_4001 = """worths 4
cells 9
kind a 0
kind b 0
kind c 1
kind d 1
move turn c d
move place d 6 7 8
move turn a d
move turn d a
move turn d a
move turn b c
end 0 if holds 1 c
none 0
still 1 2
left 7
start c . b d a . b . d
side 0"""

POSITIONS_400 = """worths 4
cells 8
kind a 0
kind b 0
kind c 1
kind d 1
move turn a b
move turn b c
move turn d a
move pass 0
move place b 3
move pass 1
end 0 if holds 7 c
none 0
still 1 2
left 7
start a . c d a . d a
side 1"""

POSITIONS_401 = """worths 4
cells 9
kind a 0
kind b 0
kind c 1
kind d 1
move turn b a
move turn c b
move place a 4 5
move place b 2 4 6 8
move place a 3
none 0
still 1 2
left 6
start c b c . c b b d c
side 0"""

# More plays than can be gone through.
PLAYS_MANY = """worths 4
cells 9
kind a 0
kind d 1
move place a 0 1 2 3 4 5 6 7 8
move place d 0 1 2 3 4 5 6 7 8
none 0
still 1 2
left 8
start . . . . . . . . .
side 0"""


def game(text):
    """The rules of a text and the position at the start."""
    rules = read_rules(text)
    return rules, (rules.start, rules.side, rules.left)
