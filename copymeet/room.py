"""A room: desks that are told rows of text, and answer by texts."""

from copymeet.deeds import covers
from copymeet.desk import Desk
from copymeet.errors import NoDeed, NoHand, NoPlace, NoRow, NoText, NoThing
from copymeet.fates import fates
from copymeet.places import gap
from copymeet.wire import read, shown
from copymeet.words import MOST_PLACES, check_signs, name_text, names_text, number_text, read_hand, read_parts

# What stands behind the word of each row, the hand ahead of it left out.
FORMS = {
    "make": ("kind", "thing", "key or at"),
    "move": ("thing", "thing", "key or at"),
    "drop": ("thing",),
    "add": ("thing", "number"),
    "choose": ("thing", "number"),
    "put": ("thing", "number"),
    "take": ("thing", "number"),
    "write": ("thing", "at", "signs"),
    "cut": ("thing", "at", "at"),
    "mark": ("thing", "at", "at", "word"),
    "clear": ("thing", "at", "at", "word"),
    "back": ("nth", "nth"),
    "settle": (),
    "meet": ("hand",),
    "sweep": (),
    "held": (),
    "why": ("name",),
    "tell": (),
}


def read_row(row):
    """Read a row as (hand, word, parts), or refuse what is none with NoRow."""
    if not isinstance(row, str):
        raise NoRow("no text")
    try:
        check_signs(row)
        hand, blank, rest = row.partition(" ")
        word = rest.partition(" ")[0]
        return (read_hand(hand), word, read_parts(rest, FORMS.get(word)))
    except NoText:
        raise NoRow("a row that a room doesn't know") from None


def act_of(folding, word, parts):
    """Tell the act that a row means, as things stand: numbers of what stands there become places."""
    if word in ("make", "move") and isinstance(parts[2], int):
        return (word, parts[0], parts[1], pair_at(folding, "row", parts[1], parts[2]))
    if word == "write":
        return (word, parts[0]) + pair_at(folding, "text", parts[0], parts[1]) + (parts[2],)
    if word == "cut":
        return (word, parts[0], tuple(stretch(folding, parts, MOST_PLACES)))
    if word in ("mark", "clear"):
        places = stretch(folding, parts, None)
        return (word, parts[0], places[0], places[-1], parts[3])
    return (word,) + tuple(parts)


def pair_at(folding, kind, thing, at):
    """Tell the pair for what shall stand ahead of number at in the row or text."""
    if folding.tree.kind_of(thing) != kind:
        # The desk refuses the thing itself.
        return ((), 1)
    places = folding.places_in(thing)
    spot = min(at, len(places))
    left = places[spot - 1] if spot > 0 else ()
    right = places[spot] if spot < len(places) else None
    return gap(left, right)


def stretch(folding, parts, most):
    """Tell the places of a text's signs from one number to another, both in, no more than so many of them."""
    thing, first, last = parts[:3]
    if folding.tree.kind_of(thing) != "text":
        raise NoThing(thing)
    places = folding.places_in(thing)[first:last + 1]
    if not places or most is not None and len(places) > most:
        raise NoPlace(())
    return places


def fate_text(fate):
    """Write a fate."""
    if fate[0] == "lost":
        return "lost " + names_text(fate[1])
    return " ".join([fate[0]] + [name_text(name) for name in fate[1:]])


def numbers_text(numbers):
    """Write numbers parted by commas."""
    return ",".join([number_text(number) for number in numbers])


def text_text(rows):
    """Write what a text tells: its signs, and for each word the numbers of the signs that bear it."""
    bearers = {}
    for number, row in enumerate(rows):
        for word in row[2]:
            bearers.setdefault(word, []).append(number)
    marked = [" " + word + ":" + numbers_text(bearers[word]) for word in sorted(bearers)]
    return "'" + number_text(len(rows)) + " " + "".join([row[1] for row in rows] + marked)


def told_parts(told):
    """Tell texts, and what is told of things within, that make up what is told of a thing."""
    kind, what = told
    if kind == "count":
        return ["=" + number_text(what)]
    if kind == "choice":
        return ["?" + numbers_text(what)]
    if kind == "bag":
        return ["#" + numbers_text(what)]
    if kind == "text":
        return [text_text(what)]
    parts = []
    for spot, thing, inner in what:
        parts.append("|" if parts else "")
        parts.append(spot + " " if kind == "map" else "")
        parts.append(name_text(thing) + " ")
        parts.append(inner)
    return ["{"] + parts + ["}"] if kind == "map" else ["["] + parts + ["]"]


def told_text(told):
    """Write what a desk tells."""
    texts = []
    # A list of what is left, and not a call for each depth.
    left = [told]
    while left:
        part = left.pop()
        if isinstance(part, str):
            texts.append(part)
        else:
            left.extend(list(reversed(told_parts(part))))
    return "".join(texts)


class Room:
    """Desks for some hands."""

    def __init__(self, hands):
        self.desks = {}
        for hand in hands:
            self.desks[hand] = Desk(hand, hands)
        # All deeds that were done, by their names, whatever desks threw away since.
        self.deeds = {}

    def say(self, row):
        """Do what a row says, and answer."""
        hand, word, parts = read_row(row)
        desk = self.desk_of(hand)
        if word == "meet":
            return self.meeting(desk, self.desk_of(parts[0]))
        if word == "sweep":
            return names_text(desk.sweep())
        if word == "held":
            return names_text([deed[0] for deed in desk.held()])
        if word == "why":
            return self.why(desk, parts[0])
        if word == "tell":
            return told_text(desk.told())
        deed = desk.do(act_of(desk.folded(), word, parts))
        self.deeds[deed[0]] = deed
        return shown(deed)

    def desk_of(self, hand):
        """Tell the desk of a hand."""
        if hand not in self.desks:
            raise NoHand("none of the room's hands")
        return self.desks[hand]

    def meeting(self, one, other):
        """Let two desks meet by texts, and answer how many deeds each was sent."""
        to_other = [shown(deed) for deed in one.lacks(other.seen())]
        to_one = [shown(deed) for deed in other.lacks(one.seen())]
        other.hear([read(text) for text in to_other])
        one.hear([read(text) for text in to_one])
        return number_text(len(to_other)) + " " + number_text(len(to_one))

    def why(self, desk, name):
        """Answer the fate of a deed among all that a desk has taken in."""
        seen = desk.seen()
        if not covers(seen, name):
            raise NoDeed("a deed that was not taken in")
        taken = [deed for deed in self.deeds.values() if covers(seen, deed[0])]
        return fate_text(dict(fates(taken))[name])
