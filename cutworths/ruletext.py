"""The rule language: texts of rules and rows of edits, read and written."""

from cutworths.boards import Board
from cutworths.checks import has_form, is_couple, is_name, is_sequence, is_whole, spelled_number
from cutworths.edits import EDIT_FORMS
from cutworths.errors import BadEdit, BadText
from cutworths.rules import CONDITION_FORMS, MOST_NESTED, MOVE_FORMS, Rules

_MOST_CHARACTERS = 40000

# The rows that stand exactly once, and all first words of rows.
_SINGLES = ("worths", "cells", "none", "still", "left", "start", "side")
_FIRST_WORDS = ("worths", "cells", "arrow", "kind", "move", "end", "none", "still", "left", "start", "side")

# What stands behind the first words, slot by slot; a place has cells behind these, an "all" its brackets.
_SINGLE_SLOTS = {"worths": ("number",), "cells": ("number",), "none": ("number",), "still": ("number", "number"),
                 "left": ("number",), "start": ("content",), "side": ("number",)}
_MOVE_SLOTS = {"pass": ("number",), "place": ("name", "number"), "step": ("name", "name"),
               "take": ("name", "name"), "turn": ("name", "name")}
_CONDITION_SLOTS = {"holds": ("number", "name"), "row": ("name", "name", "number"), "gone": ("name",), "stuck": ()}
_EDIT_SLOTS = {"left": ("number",), "last": ("number", "number"), "side": ("number",), "cell": ("number", "content")}


def _read_edge(word):
    """Return the edge that a word spells, or None."""
    edge = tuple([spelled_number(part, 2) for part in word.split("-")])
    return edge if len(edge) == 2 and None not in edge else None


def _read_slot(slot, word):
    """Return what a word says in a slot, or None if it does not belong there."""
    if slot == "number":
        return spelled_number(word, 2)
    if slot == "edge":
        return _read_edge(word)
    if slot == "content" and word == ".":
        return ""
    return word if is_name(word) else None


class WordRow:
    """The words of one row, read from the left."""

    def __init__(self, text, number):
        spaced = text.replace("(", " ( ").replace(")", " ) ")
        self.words = [word for word in spaced.split(" ") if word != ""]
        self.number = number
        self.at = 0

    def has_more(self):
        """Return whether words are left over."""
        return self.at < len(self.words)

    def due_word(self):
        """Return the next word, or raise if the row is short."""
        if not self.has_more():
            raise BadText("short", self.number, len(self.words))
        return self.words[self.at]

    def take_word(self, choices):
        """Go past the next word, one of the choices, and return it."""
        word = self.due_word()
        if word not in choices:
            raise BadText("word", self.number, self.at)
        self.at += 1
        return word

    def take_slot(self, slot):
        """Go past the next word and return what it says."""
        said = _read_slot(slot, self.due_word())
        if said is None:
            raise BadText(slot, self.number, self.at)
        self.at += 1
        return said

    def take_slots(self, slots):
        """Go past a word for each slot and return what they say, a tuple."""
        said = []
        for slot in slots:
            said.append(self.take_slot(slot))
        return tuple(said)

    def take_rest(self, slot):
        """Go past all words that are left and return what they say, a tuple."""
        said = []
        while self.has_more():
            said.append(self.take_slot(slot))
        return tuple(said)

    def check_end(self):
        """Raise if words are left over."""
        if self.has_more():
            raise BadText("long", self.number, self.at)


def _read_move(row):
    """Return the move rule that the row says from here on."""
    word = row.take_word(list(_MOVE_SLOTS))
    said = row.take_slots(_MOVE_SLOTS[word])
    if word == "place":
        return (word, said[0], (said[1],) + row.take_rest("number"))
    return (word,) + said


def _read_condition(row, nested):
    """Return the condition that the row says from here on, behind so many brackets that are not closed."""
    if row.due_word() == "(":
        if nested == MOST_NESTED:
            raise BadText("deep", row.number, row.at)
        row.take_word(("(",))
        return ("all", _read_brackets(row, nested + 1))
    word = row.take_word(list(_CONDITION_SLOTS))
    return (word,) + row.take_slots(_CONDITION_SLOTS[word])


def _read_brackets(row, nested):
    """Return the conditions up to the bracket that closes them."""
    if row.due_word() == ")":
        row.take_word((")",))
        return ()
    conditions = [_read_condition(row, nested)]
    while row.take_word(("and", ")")) == "and":
        conditions.append(_read_condition(row, nested))
    return tuple(conditions)


def _read_end(row):
    """Return the end that the row says from here on."""
    worth = row.take_slot("number")
    row.take_word(("if",))
    return (_read_condition(row, 0), worth)


def _read_item(row, word):
    """Return what a row says behind its first word."""
    if word == "arrow":
        return (row.take_slot("name"), row.take_rest("edge"))
    if word == "kind":
        return row.take_slots(("name", "number"))
    if word == "move":
        return _read_move(row)
    if word == "end":
        return _read_end(row)
    said = row.take_slots(_SINGLE_SLOTS[word])
    return said + row.take_rest("content") if word == "start" else said


def _read_row(row, found):
    """Read one row and put what it says into the list of its first word."""
    word = row.take_word(_FIRST_WORDS)
    if word in _SINGLES and len(found[word]) > 0:
        raise BadText("twice", row.number, 0)
    item = _read_item(row, word)
    row.check_end()
    found[word].append(item)


def _check_text(text):
    """Raise if this is no text or too long a one."""
    if not isinstance(text, str) or len(text) > _MOST_CHARACTERS:
        raise BadText("text", 0, 0)


def read_rules(text):
    """Return the rules of a text, or raise BadText, BadBoard or BadRules."""
    _check_text(text)
    found = {word: [] for word in _FIRST_WORDS}
    lines = text.split("\n")
    for number, line in enumerate(lines):
        row = WordRow(line, number)
        if row.has_more() and not row.words[0].startswith("#"):
            _read_row(row, found)
    for number, word in enumerate(_SINGLES):
        if len(found[word]) == 0:
            raise BadText("missing", len(lines), number)
    board = Board(found["cells"][0][0], found["arrow"])
    last = found["none"][0] + found["still"][0]
    return Rules(board, found["kind"], found["move"], found["end"], last, found["left"][0][0],
                 found["start"][0], found["side"][0][0], found["worths"][0][0])


def read_edit(text):
    """Return the edit that a row says, or raise BadText."""
    _check_text(text)
    row = WordRow(text, 0)
    word = row.take_word(["put", "drop"] + list(_EDIT_SLOTS))
    if word in _EDIT_SLOTS:
        edit = (word,) + row.take_slots(_EDIT_SLOTS[word])
    else:
        what = row.take_word(("move", "end"))
        edit = (f"{word} {what}", row.take_slot("number"))
        if word == "put":
            edit = edit + (_read_move(row) if what == "move" else _read_end(row),)
    row.check_end()
    return edit


def _slot_word(slot, thing):
    """Return the word for a thing in a slot, or None if it does not fit."""
    if slot == "number":
        return str(thing) if is_whole(thing, 0, 99) else None
    if slot == "content" and thing == "":
        return "."
    return thing if is_name(thing) else None


def _slot_words(slots, things):
    """Return the words for as many things as slots, or None if one does not fit."""
    words = [_slot_word(slot, thing) for slot, thing in zip(slots, things)]
    return None if None in words else words


def _move_words(rule):
    """Return the words of a move rule, or None if it has no form."""
    if not has_form(rule, MOVE_FORMS):
        return None
    word, slots, things = rule[0], _MOVE_SLOTS[rule[0]], list(rule[1:])
    if word == "place":
        cells = rule[2]
        if not is_sequence(cells) or len(cells) == 0:
            return None
        slots, things = ("name",) + ("number",) * len(cells), [rule[1]] + list(cells)
    words = _slot_words(slots, things)
    return None if words is None else [word] + words


def _add_condition(words, condition, nested):
    """Add the words of a condition and return True, or False if it has no form or becomes too long."""
    if len(words) > _MOST_CHARACTERS or not has_form(condition, CONDITION_FORMS):
        return False
    word = condition[0]
    if word != "all":
        added = _slot_words(_CONDITION_SLOTS[word], condition[1:])
        if added is None:
            return False
        words.append(word)
        words.extend(added)
        return True
    if nested == MOST_NESTED or not is_sequence(condition[1]):
        return False
    words.append("(")
    for at, inner in enumerate(condition[1]):
        if at > 0:
            words.append("and")
        if not _add_condition(words, inner, nested + 1):
            return False
    words.append(")")
    return True


def _end_words(end):
    """Return the words of an end, or None if it has no form."""
    if not is_couple(end) or not is_whole(end[1], 0, 99):
        return None
    words = [str(end[1]), "if"]
    return words if _add_condition(words, end[0], 0) else None


def _put_words(word, at, item):
    """Return the words of an edit that puts an item in, or None if it has no form."""
    if not is_whole(at, 0, 99):
        return None
    words = _move_words(item) if word == "put move" else _end_words(item)
    return None if words is None else word.split(" ") + [str(at)] + words


def _edit_words(edit):
    """Return the words of an edit, or None if it has no form."""
    if not has_form(edit, EDIT_FORMS):
        return None
    word = edit[0]
    if word == "put move" or word == "put end":
        return _put_words(word, edit[1], edit[2])
    slots = ("number",) if word == "drop move" or word == "drop end" else _EDIT_SLOTS[word]
    words = _slot_words(slots, edit[1:])
    return None if words is None else word.split(" ") + words


def print_edit(edit):
    """Return the row of an edit, or raise BadEdit."""
    words = _edit_words(edit)
    if words is None:
        raise BadEdit("edit")
    text = " ".join(words)
    if len(text) > _MOST_CHARACTERS:
        raise BadEdit("edit")
    return text


def _single_row(word, things):
    """Return the words of a single row."""
    slots = ("content",) * len(things) if word == "start" else ("number",) * len(things)
    return [word] + _slot_words(slots, things)


def print_rules(rules):
    """Return the canonical text of rules."""
    board = rules.board
    rows = [_single_row("worths", (rules.worths,)), _single_row("cells", (board.size,))]
    for name, edges in board.arrows:
        rows.append(["arrow", name] + [f"{start}-{end}" for start, end in edges])
    for name, side in rules.kinds:
        rows.append(["kind", name, str(side)])
    for rule in rules.moves:
        rows.append(["move"] + _move_words(rule))
    for end in rules.ends:
        rows.append(["end"] + _end_words(end))
    rows.append(_single_row("none", rules.last[:1]))
    rows.append(_single_row("still", rules.last[1:]))
    rows.append(_single_row("left", (rules.left,)))
    rows.append(_single_row("start", rules.start))
    rows.append(_single_row("side", (rules.side,)))
    return "\n".join([" ".join(row) for row in rows])
