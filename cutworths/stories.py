"""Stories: deeds as texts, and desks put away as texts."""

from cutworths.checks import spelled_number
from cutworths.deeds import DEED_FIELDS, check_deed
from cutworths.desk import Desk, played_on
from cutworths.errors import BadDeed, BadEdit, BadStory, BadText
from cutworths.frametext import read_road, road_word, state_text
from cutworths.positions import start_of
from cutworths.roads import moves_along, road_by
from cutworths.ruletext import print_edit, print_rules, read_edit, read_rules
from cutworths.worthtext import lattice_text, read_lattice

# Longer numbers are no part of a story.
_MOST_FIGURES = 400


def _field_words(field, thing):
    """Return the words of what stands in a field of a deed."""
    if field == "picks":
        return [str(pick) for pick in thing]
    return [print_edit(thing) if field == "edit" else str(thing)]


def _deed_row(deed):
    """Return the row of a deed, or raise BadDeed or BadEdit."""
    checked = check_deed(deed)
    words = [checked[0]]
    for field, thing in zip(DEED_FIELDS[checked[0]], checked[1:]):
        words.extend(_field_words(field, thing))
    return " ".join(words)


def print_deeds(deeds):
    """Return the text of a sequence of deeds, or raise BadDeed or BadEdit."""
    return "\n".join([_deed_row(deed) for deed in deeds])


def _likely_deed(row):
    """Return the deed that a row spells if it spells one at all, or raise BadText."""
    if row.startswith("rule "):
        return ("rule", read_edit(row[5:]))
    words = row.split(" ")
    if words == ["go", "on"]:
        words = ["go on"]
    if words[0] == "certificate":
        return tuple(words)
    things = [spelled_number(word, _MOST_FIGURES) for word in words[1:]]
    if words[0] == "hands":
        things = things[:2] + [tuple(things[2:])]
    return tuple([words[0]] + things)


def _read_deed(row, number):
    """Return the checked deed that a row spells, or raise BadStory."""
    try:
        deed = check_deed(_likely_deed(row))
        spelled = _deed_row(deed)
    except (BadDeed, BadEdit, BadText):
        raise BadStory(number)
    # An edit is read with more blanks than it is printed with.
    if spelled != row:
        raise BadStory(number)
    return deed


def read_deeds(text):
    """Return the checked deeds of a text, or raise BadStory."""
    if not isinstance(text, str):
        raise BadStory(-1)
    if text == "":
        return ()
    return tuple([_read_deed(row, number) for number, row in enumerate(text.split("\n"))])


def put_away(desk):
    """Return a desk as a text."""
    saved = desk.saved if desk.going is None else state_text(desk.going)
    road = road_by(desk.rules, start_of(desk.rules), desk.made)
    rows = [lattice_text(desk.lattice), str(desk.room), road_word(road),
            "" if saved is None else saved.replace("\n", "/"), print_rules(desk.rules)]
    return "\n".join(rows)


def taken_up(text):
    """Return the desk of a text that put_away returned."""
    rows = text.split("\n")
    rules = read_rules("\n".join(rows[4:]))
    desk = Desk(read_lattice(rows[0]), rules, int(rows[1]))
    moves = moves_along(rules, desk.position, read_road(rows[2]))
    desk.made, desk.position = played_on(rules, moves)
    if rows[3] != "":
        desk.saved = rows[3].replace("/", "\n")
    return desk
