"""Marks over stretches of a text, and the holes that clears make in them."""

from copymeet.deeds import covers
from copymeet.places import before


def within(place, first, last):
    """Tell whether the place lies from first to last, both ends in."""
    return not before(place, first) and not before(last, place)


def bears(mark, place):
    """Tell whether a mark is told at the place: within its ends, and within no hole of its own."""
    name, first, last, word, holes = mark
    if not within(place, first, last):
        return False
    return not any([within(place, hole[0], hole[1]) for hole in holes])


def holed(mark, deed):
    """Tell a mark with the hole that a clear makes in it, or as it is where the clear doesn't concern it."""
    name, first, last, word, holes = mark
    clear_name, seen, act = deed
    if word != act[4] or not covers(seen, name):
        return mark
    return (name, first, last, word, holes + ((act[2], act[3]),))


class Marks:
    """Keeps marks (name, first, last, word, holes), holes a tuple, in the order in which they were heard."""

    def __init__(self):
        self.standing = []

    def mark(self, deed):
        """Add the mark that the deed tells."""
        name, seen, act = deed
        if name not in [mark[0] for mark in self.standing]:
            self.standing.append((name, act[2], act[3], act[4], ()))

    def clear(self, deed):
        """Make a hole in each mark of the clear's word that its seen covers."""
        self.standing = [holed(mark, deed) for mark in self.standing]

    def words_at(self, place):
        """Tell the words told at a place, rising, each once."""
        return sorted(set([mark[3] for mark in self.standing if bears(mark, place)]))

    def rows(self):
        """Tell rows (name, first, last, word, holes), holes a list, as fill takes them."""
        return [mark[:4] + (list(mark[4]),) for mark in self.standing]

    def fill(self, rows):
        """Keep just the marks of these rows from now on."""
        self.standing = [row[:4] + (tuple(row[4]),) for row in rows]
