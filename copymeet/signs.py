"""The signs of a text, each at its place."""

from copymeet.places import places_of, row_rank


class Signs:
    """Keeps one sign at each of some places."""

    def __init__(self):
        self.kept = {}

    def write(self, deed):
        """Put the signs of a write at their places."""
        signs = deed[2][4]
        for place, sign in zip(places_of(deed), signs):
            self.kept[place] = sign

    def cut(self, places):
        """Take out the signs at these places, and tell the rows (place, sign) taken out."""
        gone = []
        for place in places:
            if place in self.kept:
                gone.append((place, self.kept.pop(place)))
        return sorted(gone, key=row_rank)

    def stands_at(self, place):
        """Tell whether a sign stands at the place."""
        return place in self.kept

    def rows(self):
        """Tell rows (place, sign) in the order of their places."""
        return sorted(self.kept.items(), key=row_rank)

    def fill(self, rows):
        """Keep just the signs of these rows from now on."""
        self.kept = dict(rows)
