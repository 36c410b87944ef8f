"""Grounds for the tests, and the steps of an engine through them, worked out without the program's own functions."""

from cutworths.grounds import GameGround, TreeGround
from cutworths.trees import Tree
from tests.games import lively_games, own_next, own_worth
from tests.growing import Plain, some_shapes


class ShapeView:
    """A tree by its shape; its nodes are shapes."""

    def __init__(self, shape):
        self.root = shape

    def end(self, node):
        """The worth of an end, None for another node."""
        return node if isinstance(node, int) else None

    def sign(self, node):
        return node[0]

    def children(self, node):
        return node[1]

    def key(self, node):
        return None

    def ground(self):
        return TreeGround(Tree(self.root))


class GameView:
    """A game from a position on."""

    def __init__(self, rules, position):
        self.rules, self.root = rules, position

    def end(self, node):
        return own_worth(self.rules, node)

    def sign(self, node):
        return ("joins", "meets")[node[1]]

    def children(self, node):
        return own_next(self.rules, node)

    def key(self, node):
        return node

    def ground(self):
        return GameGround(self.rules, self.root)


def some_views(lattice, seed, trees, games=0):
    """Some trees and some games over a lattice."""
    found = [ShapeView(shape) for shape in some_shapes(lattice, seed, trees)]
    if games:
        lively = lively_games(lattice.size, games, 60, 6, min(3, lattice.size))
        found.extend(GameView(rules, start) for rules, start in lively)
    return found


def node_at(view, road):
    """The node at a road, None if there is none."""
    node = view.root
    for at in road:
        children = [] if view.end(node) is not None else view.children(node)
        if not 0 <= at < len(children):
            return None
        node = children[at]
    return node


def plain_at(plain, view, node):
    """The plain worth of a node."""
    worth = view.end(node)
    if worth is not None:
        return worth
    return plain.all_of(view.sign(node), [plain_at(plain, view, child) for child in view.children(node)])


def all_roads(view, node=None, road=()):
    """The roads to all nodes, a node ahead of its children."""
    node = view.root if node is None else node
    found = [road]
    if view.end(node) is None:
        for at, child in enumerate(view.children(node)):
            found.extend(all_roads(view, child, road + (at,)))
    return found


class OwnSteps:
    """The steps of an engine by [11.5], one at a time, with the state that [11.4] tells of behind each."""

    def __init__(self, plain, view, context, memory=None):
        self.plain, self.view, self.memory = plain, view, memory
        self.context = context
        self.asked, self.frames, self.told = [], [], None
        if not plain.parts(context):
            self.told = plain.bottom
        self.steps = self.go(view.root, (), context)

    def state(self):
        return (self.context, tuple(self.asked), tuple(tuple(frame) for frame in self.frames), self.told)

    def take(self, worth):
        if not self.frames:
            self.told = worth
        else:
            frame = self.frames[-1]
            sign = self.view.sign(node_at(self.view, tuple(above[3] for above in self.frames[:-1])))
            frame[2] = self.plain.take(sign, frame[2], worth)
            frame[3] += 1

    def go(self, node, road, context):
        worth = self.view.end(node)
        if worth is not None:
            self.asked.append(road)
            self.take(worth)
            yield ("ask", road, worth)
            return
        key = self.view.key(node)
        if self.memory is not None and key is not None:
            worth = self.memory.look_up(key, context)
            if worth is not None:
                self.take(worth)
                yield ("served", road, worth)
                return
        sign = self.view.sign(node)
        frame = [context[0], context[1], self.plain.start(sign), 0]
        self.frames.append(frame)
        yield ("in", road)
        for at, child in enumerate(self.view.children(node)):
            inner = self.plain.inside(sign, context, frame[2])
            if not self.plain.parts(inner):
                break
            yield from self.go(child, road + (at,), inner)
        so_far = frame[2]
        if self.memory is not None and key is not None:
            self.memory.keep_look(key, context, so_far)
        self.frames.pop()
        self.take(so_far)
        yield ("back", road, so_far)

    def step(self):
        """One step, None behind the end."""
        return None if self.told is not None else next(self.steps)


def own_run(plain, view, context, memory=None):
    """The couples (event, state behind it) of a whole run."""
    own = OwnSteps(plain, view, context, memory)
    found = []
    event = own.step()
    while event is not None:
        found.append((event, own.state()))
        event = own.step()
    return found


def own_state_fault(plain, view, state):
    """The first fault of a state, straight from [11.8]."""
    context, asked, frames, told = state

    def worth(thing):
        return not isinstance(thing, bool) and thing in plain.worths
    if not worth(context[0]) or not worth(context[1]):
        return ("context", 0)
    if told is not None and (not worth(told) or frames):
        return ("told", 0)
    if told is None and not plain.parts(context):
        return ("still", 0)
    for i, (low, high, so_far, at) in enumerate(frames):
        node = node_at(view, tuple(frame[3] for frame in frames[:i]))
        if view.end(node) is not None or not (worth(low) and worth(high) and worth(so_far)):
            return ("frame", i)
        many = len(view.children(node))
        if at < 0 or at > many or (at == many and i != len(frames) - 1):
            return ("frame", i)
        if i == 0:
            due = tuple(context)
        else:
            above = node_at(view, tuple(frame[3] for frame in frames[:i - 1]))
            due = plain.inside(view.sign(above), tuple(frames[i - 1][:2]), frames[i - 1][2])
        if (low, high) != due:
            return ("bound", i)
        if not plain.parts((low, high)):
            return ("still", i)
    for i, road in enumerate(asked):
        node = node_at(view, road)
        if node is None or view.end(node) is None:
            return ("asked", i)
        if i > 0 and not tuple(road) > tuple(asked[i - 1]):
            return ("asked", i)
        if told is None and not tuple(road) < tuple(frame[3] for frame in frames):
            return ("asked", i)
    return None


def own_told_fault(plain, view, state):
    """The first fault of a state by the plain worths, straight from [11.9]."""
    fault = own_state_fault(plain, view, state)
    if fault is not None:
        return fault
    context, _, frames, told = state
    for i, (low, high, so_far, at) in enumerate(frames):
        node = node_at(view, tuple(frame[3] for frame in frames[:i]))
        done = [plain_at(plain, view, child) for child in view.children(node)[:at]]
        if plain.led((low, high), so_far) != plain.led((low, high), plain.all_of(view.sign(node), done)):
            return ("so far", i)
    if told is not None and plain.led(context, told) != plain.led(context, plain_at(plain, view, view.root)):
        return ("worth", 0)
    return None


def bent_state(draw, lattice, state):
    """A state with one thing changed."""
    context, asked, frames, told = list(state[0]), [list(road) for road in state[1]], [list(f) for f in state[2]], state[3]
    what = draw.choice(("context", "told", "frame", "frame", "frame", "drop", "add", "asked", "asked", "order"))
    number = draw.choice((-1, 0, 0, 1, 1, 2, 3, lattice.size - 1, lattice.size, 9999))
    if what == "context":
        context[draw.randrange(2)] = number
    if what == "told":
        told = draw.choice((None, number))
    if what == "frame" and frames:
        draw.choice(frames)[draw.randrange(4)] = number
    if what == "drop" and frames:
        frames.pop(draw.randrange(len(frames)))
    if what == "add":
        frames.insert(draw.randrange(len(frames) + 1), [draw.randrange(lattice.size) for _ in range(3)] + [number])
    if what == "asked":
        if asked and draw.random() < 0.7:
            road = draw.choice(asked)
            if road and draw.random() < 0.6:
                road[draw.randrange(len(road))] = number
            else:
                draw.choice((lambda: road.append(number), lambda: road and road.pop()))()
        else:
            asked.insert(draw.randrange(len(asked) + 1), [draw.randrange(3) for _ in range(draw.randrange(4))])
    if what == "order" and len(asked) > 1:
        at = draw.randrange(len(asked) - 1)
        asked[at], asked[at + 1] = draw.choice(((asked[at + 1], asked[at]), (asked[at], asked[at])))
    return (tuple(context), tuple(tuple(road) for road in asked), tuple(tuple(frame) for frame in frames), told)


def plain_of(lattice):
    return Plain(lattice)
