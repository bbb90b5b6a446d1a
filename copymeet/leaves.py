"""Leaves: what a count, a choice and a bag keep. A text is a leaf too, and has a file of its own."""

from copymeet.deeds import covers


def numbers_of(rows):
    """Tell the numbers of rows (name, number), rising, each once."""
    return sorted(set([number for name, number in rows]))


class Leaf:
    """A plain leaf: it keeps nothing, whatever it hears or is filled with."""

    def hear(self, deed):
        """Hear a deed; one whose act the leaf's kind doesn't know changes nothing."""
        return None

    def told(self):
        """Tell what is kept, as a reading shows it."""
        return None

    def content(self):
        """Tell all that is kept, as fill takes it."""
        return None

    def fill(self, content):
        """Keep just this content from now on."""
        return None


class Count(Leaf):
    """Keeps a number, to which each add adds."""

    def __init__(self):
        self.total = 0

    def hear(self, deed):
        act = deed[2]
        if act[0] == "add":
            self.total += act[2]

    def told(self):
        return self.total

    def content(self):
        return self.total

    def fill(self, content):
        self.total = content


class Choice(Leaf):
    """Keeps rows (name, number): the chooses that no later one has seen."""

    def __init__(self):
        self.standing = []

    def hear(self, deed):
        name, seen, act = deed
        if act[0] == "choose":
            unseen = [row for row in self.standing if not covers(seen, row[0])]
            self.standing = unseen + [(name, act[2])]

    def told(self):
        return numbers_of(self.standing)

    def content(self):
        return list(self.standing)

    def fill(self, content):
        self.standing = list(content)


class Bag(Leaf):
    """Keeps rows (name, number): the puts that no take has seen and taken."""

    def __init__(self):
        self.standing = []

    def hear(self, deed):
        name, seen, act = deed
        if act[0] == "put":
            self.standing = self.standing + [(name, act[2])]
        elif act[0] == "take":
            self.standing = [row for row in self.standing if row[1] != act[2] or not covers(seen, row[0])]

    def told(self):
        return numbers_of(self.standing)

    def content(self):
        return list(self.standing)

    def fill(self, content):
        self.standing = list(content)
