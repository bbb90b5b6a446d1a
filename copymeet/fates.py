"""Fates: what became of each deed of a list, and by which other deed."""

from copymeet.deeds import covers, in_order
from copymeet.fold import Folding, empty
from copymeet.force import in_force, taken_by
from copymeet.places import places_of


class Undoing:
    """Hears the deeds that were done, in the order, and keeps by which deed each was first undone."""

    def __init__(self):
        self.undone = {}
        # For each thing the deed by which it stands where it does.
        self.placers = {}
        # For each thing the chooses or puts that stand, as (name, number).
        self.numbers = {}
        # For each sign that stands, by (thing, place), its write; and for each write how many of its signs stand.
        self.writers = {}
        self.signs_left = {}

    def hear(self, deed):
        """Hear a deed that is in force and neither idle nor lost."""
        name, seen, act = deed
        if act[0] == "make":
            self.placers[name] = name
        elif act[0] in ("move", "drop"):
            self.undone[self.placers[act[1]]] = name
            self.placers[act[1]] = name
        elif act[0] == "choose":
            self.undo_numbers(deed, False)
            self.numbers[act[1]].append((name, act[2]))
        elif act[0] == "put":
            self.numbers.setdefault(act[1], []).append((name, act[2]))
        elif act[0] == "take":
            self.undo_numbers(deed, True)
        elif act[0] == "write":
            self.hear_write(deed)
        elif act[0] == "cut":
            self.hear_cut(deed)

    def undo_numbers(self, deed, same_number):
        """Let a choose or a take undo what it has seen: of any number, or of its own number alone."""
        name, seen, act = deed
        standing = []
        for row in self.numbers.get(act[1], []):
            if covers(seen, row[0]) and (row[1] == act[2] or not same_number):
                self.undone[row[0]] = name
            else:
                standing.append(row)
        self.numbers[act[1]] = standing

    def hear_write(self, deed):
        """Keep where the signs of a write stand."""
        name, seen, act = deed
        for place in places_of(deed):
            self.writers[(act[1], place)] = name
        self.signs_left[name] = len(act[4])

    def hear_cut(self, deed):
        """Let a cut undo the writes of which it takes the last sign."""
        name, seen, act = deed
        for place in act[2]:
            writer = self.writers.pop((act[1], place), None)
            if writer is not None:
                self.signs_left[writer] -= 1
                if self.signs_left[writer] == 0:
                    self.undone[writer] = name


def fates_in_force(deeds):
    """Tell by names the fates of deeds that are in force, handed in in the order; those that stand are left out."""
    folding = Folding(empty())
    undoing = Undoing()
    found = {}
    for deed in deeds:
        name, seen, act = deed
        outcome = folding.hear(deed)
        if outcome == "lost":
            # A lost move moves nothing, so the way up is still what it was right ahead of it.
            found[name] = ("lost", folding.tree.ring(act[1], act[2]))
        elif outcome == "idle":
            found[name] = ("idle",)
        else:
            undoing.hear(deed)
    for name, by in undoing.undone.items():
        found[name] = ("outdone", by)
    return found


def fates(deeds):
    """Tell rows (name, fate), each deed once, in the order."""
    found = fates_in_force(in_force(deeds))
    for name, by in taken_by(deeds):
        found[name] = ("back", by)
    return [(deed[0], found.get(deed[0], ("stands",))) for deed in in_order(deeds)]
