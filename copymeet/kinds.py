"""The leaf of each kind of thing, and the acts that are for one kind alone."""

from copymeet.leaves import Bag, Choice, Count
from copymeet.texts import Text

KIND_FOR = {
    "add": "count",
    "choose": "choice",
    "put": "bag",
    "take": "bag",
    "write": "text",
    "cut": "text",
    "mark": "text",
    "clear": "text",
}


def leaf_of(kind):
    """Tell a new leaf for a thing of this kind, None for a map and a row."""
    if kind == "count":
        return Count()
    if kind == "choice":
        return Choice()
    if kind == "bag":
        return Bag()
    if kind == "text":
        return Text()
    return None


def kind_for(word):
    """Tell the kind of the things that acts of this word are for, None where they are for no one kind."""
    return KIND_FOR.get(word)
