"""Deeds as texts: written, and read again."""

from copymeet.errors import NoText
from copymeet.words import check_pair, check_signs, name_text, parts_text, read_name, read_parts, read_seen, seen_text

# What stands behind the word of each act.
FORMS = {
    "make": ("kind", "thing", "spot"),
    "move": ("thing", "thing", "spot"),
    "drop": ("thing",),
    "add": ("thing", "number"),
    "choose": ("thing", "number"),
    "put": ("thing", "number"),
    "take": ("thing", "number"),
    "write": ("thing", "under", "side", "signs"),
    "cut": ("thing", "places"),
    "mark": ("thing", "place", "place", "word"),
    "clear": ("thing", "place", "place", "word"),
    "back": ("nth", "nth"),
    "settle": (),
}


def shown(deed):
    """Write a deed as one text."""
    name, seen, act = deed
    return name_text(name) + " " + seen_text(seen) + " " + act[0] + parts_text(act[1:], FORMS[act[0]])


def read(text):
    """Read a deed, or refuse what is no written deed with NoText."""
    check_signs(text)
    parts = text.split(" ", 2)
    if len(parts) != 3:
        raise NoText("too few parts")
    name = read_name(parts[0])
    seen = read_seen(parts[1])
    if dict(seen).get(name[0], 0) != name[1] - 1:
        raise NoText("a seen without the pair of the deed's own hand")
    return (name, seen, read_act(parts[2]))


def read_act(text):
    """Read an act."""
    word = text.partition(" ")[0]
    act = (word,) + tuple(read_parts(text, FORMS.get(word)))
    if word == "write":
        check_pair(act[2], act[3])
    return act
