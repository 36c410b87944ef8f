"""States of engines: as texts, and what can be wrong with them."""

from cutworths.checks import is_whole, spelled_number
from cutworths.contexts import child_context, is_hanging, led_by
from cutworths.errors import BadCut
from cutworths.grounds import told_by
from cutworths.lattices import gathered, is_worth

_MOST_CHARACTERS = 500000
_LEAST_ROWS = 4
_MOST_FIGURES = 4


def road_word(road):
    """Return the word for a road."""
    return ".".join([str(at) for at in road]) if len(road) > 0 else "-"


def read_road(word):
    """Return the road that a word spells, or None."""
    if word == "-":
        return ()
    road = tuple([spelled_number(part, _MOST_FIGURES) for part in word.split(".")])
    return None if None in road else road


def state_text(state):
    """Return a state as rows of words."""
    context, asked, frames, told = state
    rows = ["cut 1", f"context {context[0]} {context[1]}", " ".join(["asked"] + [road_word(road) for road in asked])]
    for low, high, so_far, at in frames:
        rows.append(f"frame {low} {high} {so_far} {at}")
    rows.append("going" if told is None else f"told {told}")
    return "".join([row + "\n" for row in rows])


def _read_numbers(row, word, many):
    """Return the so many numbers that stand behind this word in a row, or None."""
    words = row.split(" ")
    if words[0] != word or len(words) != many + 1:
        return None
    numbers = tuple([spelled_number(spelled, _MOST_FIGURES) for spelled in words[1:]])
    return None if None in numbers else numbers


def _read_asked(row):
    """Return the roads that stand in a row of roads asked, or None."""
    words = row.split(" ")
    roads = tuple([read_road(word) for word in words[1:]])
    return None if words[0] != "asked" or None in roads else roads


def _read_frames(rows):
    """Return the frames of all rows between the third and the last, or raise BadCut."""
    frames = []
    for at in range(3, len(rows) - 1):
        frame = _read_numbers(rows[at], "frame", 4)
        if frame is None:
            raise BadCut("frame", at)
        frames.append(frame)
    return tuple(frames)


def _read_told(row):
    """Return a tuple of what a last row tells, or None."""
    if row == "going":
        return (None,)
    return _read_numbers(row, "told", 1)


def read_state(text):
    """Return the state that a text spells, or raise BadCut."""
    if not isinstance(text, str) or len(text) > _MOST_CHARACTERS or not text.endswith("\n"):
        raise BadCut("text", 0)
    rows = text[:-1].split("\n")
    if len(rows) < _LEAST_ROWS:
        raise BadCut("rows", len(rows))
    if rows[0] != "cut 1":
        raise BadCut("first", 0)
    context = _read_numbers(rows[1], "context", 2)
    if context is None:
        raise BadCut("context", 1)
    asked = _read_asked(rows[2])
    if asked is None:
        raise BadCut("asked", 2)
    frames = _read_frames(rows)
    told = _read_told(rows[-1])
    if told is None:
        raise BadCut("told", len(rows) - 1)
    return (context, asked, frames, told[0])


def _children_in(ground, node, known):
    """Return the children of a node, none of an end; known holds those of nodes looked at before."""
    if node not in known:
        known[node] = () if ground.is_end(node) else ground.children_of(node)
    return known[node]


def _head_fault(lattice, context, frames, told):
    """Return what is wrong with the context and with what is told, or None."""
    if not all([is_worth(lattice, worth) for worth in context]):
        return ("context", 0)
    if told is not None and (not is_worth(lattice, told) or len(frames) > 0):
        return ("told", 0)
    if told is None and not is_hanging(lattice, context):
        return ("still", 0)
    return None


def _is_frame(lattice, frame, children, is_last):
    """Return whether a frame fits a node with these children."""
    if len(children) == 0 or not all([is_worth(lattice, worth) for worth in frame[:3]]):
        return False
    # Only the last frame may have all its children done.
    return is_whole(frame[3], 0, len(children) if is_last else len(children) - 1)


def _frames_fault(lattice, ground, context, frames, known):
    """Return the first fault of the frames in a checked context, or None."""
    node, due = ground.root_node(), tuple(context)
    for number, frame in enumerate(frames):
        is_last = number == len(frames) - 1
        children = _children_in(ground, node, known)
        if not _is_frame(lattice, frame, children, is_last):
            return ("frame", number)
        if tuple(frame[:2]) != due:
            return ("bound", number)
        if not is_hanging(lattice, due):
            return ("still", number)
        if not is_last:
            due = child_context(lattice, ground.sign_of(node), due, frame[2])
            node = children[frame[3]]
    return None


def _leads_to_end(ground, road, known):
    """Return whether a road leads to an end."""
    node = ground.root_node()
    for at in road:
        children = _children_in(ground, node, known)
        if not is_whole(at, 0, len(children) - 1):
            return False
        node = children[at]
    return len(_children_in(ground, node, known)) == 0


def _asked_fault(ground, asked, limit, known):
    """Return the first fault of the roads asked, all of them below the limit if there is one, or None."""
    before = None
    for number, kept in enumerate(asked):
        road = tuple(kept)
        if not _leads_to_end(ground, road, known) or (before is not None and road <= before):
            return ("asked", number)
        if limit is not None and road >= limit:
            return ("asked", number)
        before = road
    return None


def state_fault(lattice, ground, state):
    """Return the first fault (what, at) of a state, or None."""
    context, asked, frames, told = state
    known = {}
    fault = _head_fault(lattice, context, frames, told)
    if fault is None:
        fault = _frames_fault(lattice, ground, context, frames, known)
    if fault is None:
        limit = tuple([frame[3] for frame in frames]) if told is None else None
        fault = _asked_fault(ground, asked, limit, known)
    return fault


def frame_rows(ground, frames):
    """Return the tuple of the node, its sign and its children for each frame of a state without fault."""
    rows = []
    node = ground.root_node()
    for number, frame in enumerate(frames):
        children = ground.children_of(node)
        rows.append((node, ground.sign_of(node), children))
        if number < len(frames) - 1:
            node = children[frame[3]]
    return tuple(rows)


def told_fault(lattice, ground, state):
    """Return the first fault (what, at) of a state by the plain worths of the ground, or None."""
    fault = state_fault(lattice, ground, state)
    if fault is not None:
        return fault
    context, _, frames, told = state
    known = {}
    for number, (_, sign, children) in enumerate(frame_rows(ground, frames)):
        low, high, so_far, at = frames[number]
        worth = gathered(lattice, sign, [told_by(lattice, ground, child, known) for child in children[:at]])
        if led_by(lattice, (low, high), so_far) != led_by(lattice, (low, high), worth):
            return ("so far", number)
    if told is not None:
        worth = told_by(lattice, ground, ground.root_node(), known)
        if led_by(lattice, context, told) != led_by(lattice, context, worth):
            return ("worth", 0)
    return None
