"""Marks over stretches of a text, and the holes that clears make in them."""

from copymeet.deeds import covers
from copymeet.places import before, rank_of


def within(place, first, last):
    """Tell whether the place lies from first to last, both ends in."""
    return not before(place, first) and not before(last, place)


def spans_of(mark):
    """Tell the ends of a mark, and behind them those of its holes."""
    return [(mark[1], mark[2])] + list(mark[4])


def numbered(places):
    """Tell by places the number of each in their order; some may be told twice."""
    numbers = {}
    for place in sorted(places, key=rank_of):
        numbers.setdefault(place, len(numbers))
    return numbers


def bears(spans, number):
    """Tell whether a mark is told at the place of this number: within its ends, and within no hole of its own."""
    inside = [first <= number <= last for first, last in spans]
    return inside[0] and not any(inside[1:])


def holed(mark, deed):
    """Tell a mark with the hole that a clear makes in it, or as it is where the clear doesn't concern it."""
    name, first, last, word, holes = mark
    clear_name, seen, act = deed
    if word != act[4] or not covers(seen, name):
        return mark
    return (name, first, last, word, holes + ((act[2], act[3]),))


class Marks:
    """Keeps marks (name, first, last, word, holes), holes a tuple, in the order in which they were heard."""

    def __init__(self):
        self.standing = []

    def mark(self, deed):
        """Add the mark that the deed tells."""
        name, seen, act = deed
        if name not in [mark[0] for mark in self.standing]:
            self.standing.append((name, act[2], act[3], act[4], ()))

    def clear(self, deed):
        """Make a hole in each mark of the clear's word that its seen covers."""
        self.standing = [holed(mark, deed) for mark in self.standing]

    def words_at(self, place):
        """Tell the words told at a place, rising, each once."""
        return self.words_along([place])[0]

    def words_along(self, places):
        """Tell for each of some places the words told at it."""
        # Long places take long to compare. So all are put in order once, and numbers are compared from then on.
        numbers = numbered(places + self.ends())
        marks = []
        for mark in self.standing:
            marks.append((mark[3], [(numbers[first], numbers[last]) for first, last in spans_of(mark)]))
        words = []
        for place in places:
            number = numbers[place]
            words.append(sorted(set([word for word, spans in marks if bears(spans, number)])))
        return words

    def ends(self):
        """Tell all places at which a mark or a hole begins or ends, each once."""
        found = {}
        for mark in self.standing:
            for first, last in spans_of(mark):
                found[first] = True
                found[last] = True
        return list(found)

    def rows(self):
        """Tell rows (name, first, last, word, holes), holes a list, as fill takes them."""
        return [mark[:4] + (list(mark[4]),) for mark in self.standing]

    def fill(self, rows):
        """Keep just the marks of these rows from now on."""
        self.standing = [row[:4] + (tuple(row[4]),) for row in rows]
