"""The kinds of things, and the leaf of each."""

from copymeet.leaves import Bag, Choice, Count
from copymeet.texts import Text


def leaf_of(kind):
    """Tell a new leaf for a thing of this kind, None for a map and a row."""
    if kind == "count":
        return Count()
    if kind == "choice":
        return Choice()
    if kind == "bag":
        return Bag()
    if kind == "text":
        return Text()
    return None
