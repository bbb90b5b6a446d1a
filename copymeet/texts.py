"""Texts: leaves with signs, and with marks over them."""

from copymeet.leaves import Leaf
from copymeet.marks import Marks
from copymeet.signs import Signs


class Text(Leaf):
    """Keeps signs and marks. Its content is a tuple of two lists, rows of signs and rows of marks."""

    def __init__(self):
        self.signs = Signs()
        self.marks = Marks()

    def hear(self, deed):
        word = deed[2][0]
        if word == "write":
            self.signs.write(deed)
        elif word == "cut":
            self.signs.cut(deed[2][2])
        elif word == "mark":
            self.marks.mark(deed)
        elif word == "clear":
            self.marks.clear(deed)

    def stands_at(self, place):
        """Tell whether a sign stands at the place."""
        return self.signs.stands_at(place)

    def places(self):
        """Tell the places at which signs stand, in order."""
        return [place for place, sign in self.signs.rows()]

    def told(self):
        words = self.marks.words_along(self.places())
        return [(row[0], row[1], words[k]) for k, row in enumerate(self.signs.rows())]

    def content(self):
        return (self.signs.rows(), self.marks.rows())

    def fill(self, content):
        sign_rows, mark_rows = content
        self.signs.fill(sign_rows)
        self.marks.fill(mark_rows)
