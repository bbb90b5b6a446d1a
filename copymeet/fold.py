"""The fold of deeds upon a base, and what is told of it.

A base is a tuple (rows, lost): for each thing made a row (thing, kind, holder, spot, content), and the names of
the lost moves.
"""

from copymeet.deeds import ROOT, in_order
from copymeet.force import in_force
from copymeet.kinds import kind_for, leaf_of
from copymeet.tree import Tree


class Folding:
    """A base at work: it hears deeds, in the order in which it is handed them."""

    def __init__(self, base):
        rows, lost = base
        self.tree = Tree()
        self.tree.fill([row[:4] for row in rows], lost)
        self.leaves = {}
        for thing, kind, holder, spot, content in rows:
            self.add_leaf(thing, kind)
            if thing in self.leaves:
                self.leaves[thing].fill(content)

    def add_leaf(self, thing, kind):
        """Give a thing its leaf; maps and rows have none."""
        leaf = leaf_of(kind)
        if leaf is not None:
            self.leaves[thing] = leaf

    def hear(self, deed):
        """Do a deed, and tell what becomes of it: "done", "idle" or "lost"."""
        act = deed[2]
        if act[0] in ("make", "move", "drop"):
            return self.hear_tree(deed)
        if act[0] not in ("back", "settle"):
            if self.tree.kind_of(act[1]) != kind_for(act[0]):
                return "idle"
            self.leaves[act[1]].hear(deed)
        return "done"

    def hear_tree(self, deed):
        """Do a make, a move or a drop."""
        fate = self.tree.hear(deed)
        act = deed[2]
        if act[0] == "make" and fate == "done":
            self.add_leaf(deed[0], act[1])
        return fate

    def base(self):
        """Tell the base that came of all this."""
        return ([row + (self.content_of(row[0]),) for row in self.tree.rows()], self.tree.lost())

    def content_of(self, thing):
        """Tell the content of a thing's leaf, None where it has none."""
        return self.leaves[thing].content() if thing in self.leaves else None

    def places_in(self, thing):
        """Tell the places of what stands in a row or in a text, in order."""
        if thing in self.leaves:
            return self.leaves[thing].places()
        return [self.tree.held(inner)[1] for inner in self.tree.within(thing)]

    def told(self):
        """Tell what hangs from ROOT."""
        tellings = {}
        # From the innermost out, and not by a call for each depth: what a thing holds is told ahead of it.
        for thing in reversed(self.hanging()):
            tellings[thing] = self.telling(thing, tellings)
        return tellings[ROOT]

    def hanging(self):
        """Tell all things that hang from ROOT, each behind its holder."""
        found = []
        left = [ROOT]
        while left:
            thing = left.pop()
            found.append(thing)
            left.extend(self.tree.within(thing))
        return found

    def telling(self, thing, tellings):
        """Tell (kind, what) of a thing, by the tellings of the things that it holds."""
        kind = self.tree.kind_of(thing)
        if thing in self.leaves:
            return (kind, self.leaves[thing].told())
        return (kind, [(self.tree.held(inner)[1], inner, tellings[inner]) for inner in self.tree.within(thing)])


def empty():
    """Tell the base of nothing."""
    return ([], [])


def fold(base, deeds):
    """Tell the base that comes of doing the deeds, in the order, each once, upon a base."""
    folding = Folding(base)
    for deed in in_order(deeds):
        folding.hear(deed)
    return folding.base()


def told(base):
    """Tell what a base tells, from ROOT down, as (kind, what)."""
    return Folding(base).told()


def reading(deeds):
    """Tell what comes of doing the deeds that are in force upon nothing."""
    return told(fold(empty(), in_force(deeds)))
