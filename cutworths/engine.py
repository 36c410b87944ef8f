"""Engines: the search by contexts, step by step, to be cut off and gone on with anywhere."""

from cutworths.contexts import child_context, context_or_root, is_hanging
from cutworths.errors import Apart, BadCut, Ended
from cutworths.frametext import frame_rows, read_state, state_fault, state_text
from cutworths.lattices import neutral_worth, taken_in
from cutworths.spans import Spans


class Engine:
    """A search through a ground; its frames are what it knows of the nodes on its way down."""

    def __init__(self, lattice, ground, context=None, memory=None):
        self.lattice = lattice
        self.ground = ground
        self.memory = memory
        self.context = context_or_root(lattice, context)
        self.asked = ()
        self.frames = ()
        self.told = None if is_hanging(lattice, self.context) else lattice.bottom
        self.ended = self.told is not None
        # The node, its sign and its children for each frame.
        self._rows = ()

    @staticmethod
    def resumed(lattice, ground, state, memory=None):
        """Return an engine in this state, or raise BadCut."""
        fault = state_fault(lattice, ground, state)
        if fault is not None:
            what, at = fault
            raise BadCut(what, at)
        context, asked, frames, told = state
        engine = Engine(lattice, ground, context, memory)
        engine.asked = tuple([tuple(road) for road in asked])
        engine.frames = tuple([tuple(frame) for frame in frames])
        engine.told = told
        engine.ended = told is not None
        engine._rows = frame_rows(ground, frames)
        return engine

    @staticmethod
    def gone_on(lattice, ground, text, memory=None):
        """Return an engine in the state that a text spells, or raise BadCut."""
        return Engine.resumed(lattice, ground, read_state(text), memory)

    def engine_state(self):
        """Return the state: the context, the roads asked, the frames, and what is told."""
        return (self.context, self.asked, self.frames, self.told)

    def cut_text(self):
        """Return the state as a text."""
        return state_text(self.engine_state())

    def _road_on(self):
        """Return the road to the node that the engine comes to next."""
        return tuple([frame[3] for frame in self.frames])

    def _take(self, worth):
        """Take a worth into the last frame; without one it is told."""
        if len(self.frames) == 0:
            self.told = worth
            self.ended = True
        else:
            low, high, so_far, at = self.frames[-1]
            so_far = taken_in(self.lattice, self._rows[-1][1], so_far, worth)
            self.frames = self.frames[:-1] + ((low, high, so_far, at + 1),)

    def _looked_up(self, node, own):
        """Return the worth with which the memory serves a node that is no end, or None."""
        if self.memory is None:
            return None
        key = self.ground.key_of(node)
        return None if key is None else self.memory.look_up(key, own)

    def _come_to(self, node, own):
        """Come to a node in its own context, and return the event."""
        road = self._road_on()
        if self.ground.is_end(node):
            worth = self.ground.end_told(node)
            self.asked = self.asked + (road,)
            self._take(worth)
            return ("ask", road, worth)
        worth = self._looked_up(node, own)
        if worth is not None:
            self._take(worth)
            return ("served", road, worth)
        sign = self.ground.sign_of(node)
        self.frames = self.frames + (own + (neutral_worth(self.lattice, sign), 0),)
        self._rows = self._rows + ((node, sign, self.ground.children_of(node)),)
        return ("in", road)

    def _go_back(self):
        """Take off the last frame, and return the event."""
        road = self._road_on()[:-1]
        low, high, so_far, _ = self.frames[-1]
        key = self.ground.key_of(self._rows[-1][0])
        # First of all, for a memory that can hold no such worth raises, and then nothing may have changed.
        if self.memory is not None and key is not None:
            self.memory.keep_look(key, (low, high), so_far)
        self.frames = self.frames[:-1]
        self._rows = self._rows[:-1]
        self._take(so_far)
        return ("back", road, so_far)

    def step_once(self):
        """Do one step and return its event, or raise Ended."""
        if self.ended:
            raise Ended()
        if len(self.frames) == 0:
            return self._come_to(self.ground.root_node(), self.context)
        low, high, so_far, at = self.frames[-1]
        _, sign, children = self._rows[-1]
        inner = child_context(self.lattice, sign, (low, high), so_far)
        if at < len(children) and is_hanging(self.lattice, inner):
            return self._come_to(children[at], inner)
        return self._go_back()

    def _run(self, most):
        """Do at most so many steps, without a number all, and return their events."""
        state, rows = self.engine_state(), self._rows
        spans = self.memory.span_rows if isinstance(self.memory, Spans) else ()
        events = []
        try:
            while not self.ended and (most is None or len(events) < most):
                events.append(self.step_once())
        except Apart:
            # Only Spans raise it. What the steps before did is taken back, too.
            self.context, self.asked, self.frames, self.told = state
            self._rows = rows
            self.memory.put_spans(spans)
            raise
        return tuple(events)

    def go_steps(self, many):
        """Do up to so many steps until the engine ends, and return their events."""
        return self._run(many)

    def finish_all(self):
        """Go on to the end and return what is told."""
        self._run(None)
        return self.told
