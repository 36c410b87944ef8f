"""Desks: a game that is played, searched, cut off, gone on with and edited, deed by deed."""

from cutworths.bars import bar_game, guarded_search
from cutworths.certificates import certificate_from
from cutworths.checks import is_whole
from cutworths.contexts import root_context
from cutworths.cutting import parent_search
from cutworths.deeds import check_deed
from cutworths.edits import edited_rules
from cutworths.ends import open_moves
from cutworths.engine import Engine
from cutworths.errors import BadDesk, Barred, Finished, IsCut, NoBack, NoEngine, NoMove, NotCut, WorthError
from cutworths.frametext import read_state, state_text
from cutworths.goals import ask_prime
from cutworths.grounds import GameGround
from cutworths.kepts import memory_search
from cutworths.memory import Memory
from cutworths.moves import position_behind
from cutworths.positions import start_of
from cutworths.shapes import is_distributive
from cutworths.trees import tree_of
from cutworths.weaving import woven_by

_MOST_ROOM = 64


class Trial:
    """What a row of deeds told that was taken back, and the number of the deed refused, or None."""

    def __init__(self, tolds, refused):
        self.tolds = tolds
        self.refused = refused

    def __eq__(self, other):
        return isinstance(other, Trial) and self.tolds == other.tolds and self.refused == other.refused


# Each deed is a function of the desk and the checked deed that returns what is told. It changes the desk
# only behind all that can raise.


def _memory_of(desk):
    """Return a memory that holds what the desk has seen."""
    memory = Memory(desk.lattice, desk.room)
    for position, context, worth in desk.seen:
        memory.keep_look(position, context, worth)
    return memory


def _check_spread(desk):
    """Raise Barred if the lattice is not distributive."""
    bar = bar_game(desk.lattice)
    if bar is not None:
        raise Barred(bar)


def _put_moves(desk, made, position):
    """Let the desk stand at a position behind these moves, without an engine."""
    desk.made, desk.position = made, position
    desk.going = desk.saved = None


def played_on(rules, moves):
    """Return the moves, from the start as long as each is open, and the position behind them."""
    made, position = (), start_of(rules)
    for move in moves:
        if move not in open_moves(rules, position):
            break
        made = made + (move,)
        position = position_behind(position, move)
    return made, position


def _do_move(desk, deed):
    """Make an open move."""
    choices = open_moves(desk.rules, desk.position)
    if not is_whole(deed[1], 0, len(choices) - 1):
        raise NoMove(deed[1])
    move = choices[deed[1]]
    _put_moves(desk, desk.made + (move,), position_behind(desk.position, move))
    return desk.position


def _do_back(desk, deed):
    """Take the last move back."""
    if len(desk.made) == 0:
        raise NoBack()
    made, position = played_on(desk.rules, desk.made[:-1])
    _put_moves(desk, made, position)
    return desk.position


def _do_worth(desk, deed):
    """Search the game from the position on."""
    if not is_distributive(desk.lattice):
        return parent_search(desk.lattice, tree_of(desk.rules, desk.position)).worth
    memory = _memory_of(desk)
    looked = memory_search(desk.lattice, desk.rules, desk.position, root_context(desk.lattice), memory)
    desk.seen = memory.looks
    return looked.worth


def _do_ask(desk, deed):
    """Go on with the engine, or begin one."""
    _check_spread(desk)
    if desk.saved is not None:
        raise IsCut()
    memory = _memory_of(desk)
    ground = GameGround(desk.rules, desk.position)
    if desk.going is None:
        engine = Engine(desk.lattice, ground, None, memory)
    else:
        engine = Engine.resumed(desk.lattice, ground, desk.going, memory)
        if engine.ended:
            raise Finished()
    before = len(engine.asked)
    engine.go_steps(deed[1])
    desk.going, desk.seen = engine.engine_state(), memory.looks
    return (engine.asked[before:], engine.told)


def _do_cut(desk, deed):
    """Cut the engine off."""
    if desk.saved is not None:
        raise IsCut()
    if desk.going is None:
        raise NoEngine()
    desk.saved = state_text(desk.going)
    desk.going = None
    desk.seen = ()
    return desk.saved


def _do_go_on(desk, deed):
    """Take up the engine that was cut off."""
    if desk.saved is None:
        raise NotCut()
    desk.going = read_state(desk.saved)
    desk.saved = None
    return desk.going[1]


def _do_hands(desk, deed):
    """Let several hands search the game from the position on."""
    _check_spread(desk)
    memory = _memory_of(desk)
    ground = GameGround(desk.rules, desk.position)
    weaving = woven_by(desk.lattice, ground, deed[1], deed[2], deed[3], memory)
    desk.seen = memory.looks
    return (weaving.asked, weaving.woven_worth())


def _do_forget(desk, deed):
    """Take a look out of what was seen."""
    memory = _memory_of(desk)
    look = memory.forget_look(deed[1])
    desk.seen = memory.looks
    return look


def _do_prime(desk, deed):
    """Ask whether a prime is at most the worth."""
    return ask_prime(desk.lattice, tree_of(desk.rules, desk.position), deed[1]).yes


def _do_certificate(desk, deed):
    """Certify a bound of the worth."""
    tree = tree_of(desk.rules, desk.position)
    return certificate_from(desk.lattice, tree, guarded_search(desk.lattice, tree).asked, deed[1])


def _do_rule(desk, deed):
    """Edit the rules, and make the moves anew."""
    rules = edited_rules(desk.rules, deed[1])
    made, position = played_on(rules, desk.made)
    desk.rules = rules
    desk.seen = ()
    _put_moves(desk, made, position)
    return len(made)


_DOERS = {"move": _do_move, "back": _do_back, "worth": _do_worth, "ask": _do_ask, "cut": _do_cut,
          "go on": _do_go_on, "hands": _do_hands, "forget": _do_forget, "prime": _do_prime,
          "certificate": _do_certificate, "rule": _do_rule}


class Desk:
    """A game at a position, with what was seen of it, an engine on its way or cut off, and all deeds done."""

    def __init__(self, lattice, rules, room=8):
        if lattice.size != rules.worths:
            raise BadDesk("worths")
        if not is_whole(room, 0, _MOST_ROOM):
            raise BadDesk("room")
        self.lattice = lattice
        self.rules = rules
        self.room = room
        self.made = ()
        self.seen = ()
        self.going = None
        self.saved = None
        self.log = ()
        self.position = start_of(rules)

    def __eq__(self, other):
        return (isinstance(other, Desk) and self.lattice == other.lattice and self.rules == other.rules
                and self.room == other.room and self.made == other.made and self.seen == other.seen
                and self.going == other.going and self.saved == other.saved)

    def __len__(self):
        return len(self.log)

    def __iter__(self):
        return iter(self.log)

    def do_deed(self, deed):
        """Check a deed, do it and return what is told, or raise."""
        checked = check_deed(deed)
        doer = _DOERS[checked[0]]
        told = doer(self, checked)
        self.log = self.log + ((checked, told),)
        return told

    def trial_deeds(self, deeds):
        """Do the deeds until one is refused, take them all back, and return the Trial."""
        kept = (self.rules, self.made, self.seen, self.going, self.saved, self.log, self.position)
        tolds, refused = [], None
        for number, deed in enumerate(list(deeds)):
            try:
                tolds.append(self.do_deed(deed))
            except WorthError:
                refused = number
                break
        self.rules, self.made, self.seen, self.going, self.saved, self.log, self.position = kept
        return Trial(tuple(tolds), refused)
