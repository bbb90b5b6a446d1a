"""Things in things: which thing is held where, whatever is made, moved and dropped."""

from copymeet.deeds import ROOT
from copymeet.places import place_of, rank_of


class Tree:
    """Keeps for each thing made its kind, its holder and its spot; those of a thing in the bin are None."""

    def __init__(self):
        self.made = {}
        self.failed = []

    def hear(self, deed):
        """Hear a make, a move or a drop, and tell what becomes of it: "done", "idle" or "lost"."""
        name, seen, act = deed
        if act[0] == "make":
            return self.hear_make(name, act)
        if act[1] not in self.made:
            return "idle"
        if act[0] == "drop":
            self.put(act[1], None, None)
            return "done"
        return self.hear_move(name, act)

    def hear_make(self, name, act):
        """Hear a make of this name."""
        word, kind, holder, spot = act
        if not self.takes(holder, spot):
            return "idle"
        self.made[name] = (kind, holder, stand_of(spot, name))
        return "done"

    def hear_move(self, name, act):
        """Hear a move of this name, of a thing that was made."""
        word, thing, holder, spot = act
        if not self.takes(holder, spot):
            return "idle"
        if self.ring(thing, holder):
            self.failed.append(name)
            return "lost"
        self.put(thing, holder, stand_of(spot, name))
        return "done"

    def takes(self, holder, spot):
        """Tell whether there is such a holder, of the kind that the spot is for."""
        return self.kind_of(holder) == ("map" if isinstance(spot, str) else "row")

    def put(self, thing, holder, spot):
        """Let a thing stand there from now on, with all within it."""
        self.made[thing] = (self.made[thing][0], holder, spot)

    def kind_of(self, thing):
        """Tell the kind of a thing, None for what was not made."""
        if thing == ROOT:
            return "map"
        return self.made[thing][0] if thing in self.made else None

    def held(self, thing):
        """Tell (holder, spot) of a thing, None for ROOT and for what was not made."""
        return self.made[thing][1:] if thing in self.made else None

    def ring(self, thing, holder):
        """Tell the way up from the holder to the thing, [] where it doesn't come there."""
        way = []
        upper = holder
        while upper in self.made:
            way.append(upper)
            if upper == thing:
                return way
            upper = self.made[upper][1]
        return []

    def within(self, thing):
        """Tell the things that a thing holds: of a map by keys, then by names, of a row by places."""
        spots = [(row[2], inner) for inner, row in self.made.items() if row[1] == thing]
        if self.kind_of(thing) == "row":
            spots = [(rank_of(place), inner) for place, inner in spots]
        return [inner for spot, inner in sorted(spots)]

    def lost(self):
        """Tell the names of the lost moves, in the order in which they were heard."""
        return list(self.failed)

    def rows(self):
        """Tell rows (thing, kind, holder, spot), sorted by thing."""
        return sorted([(thing,) + row for thing, row in self.made.items()], key=row_thing)

    def fill(self, rows, lost):
        """Stand from now on just as these rows and lost moves tell."""
        self.made = {}
        for thing, kind, holder, spot in rows:
            self.made[thing] = (kind, holder, spot)
        self.failed = list(lost)


def stand_of(spot, name):
    """Tell where a thing put by the deed of this name stands: at the key, or at the place of the pair."""
    return spot if isinstance(spot, str) else place_of(spot, name)


def row_thing(row):
    """Tell the thing of a row, by which rows are sorted."""
    return row[0]
