"""The texts of numbers, names, seens, places and their like: written, and read or refused with NoText."""

from copymeet.deeds import ROOT
from copymeet.errors import NoText

FIGURES = "0123456789"
LETTERS = "abcdefghijklmnopqrstuvwxyz"
KINDS = ("map", "row", "count", "choice", "bag", "text")
MOST_FIGURES = 40
MOST_HAND = 8
MOST_WORD = 8
MOST_KEY = 12
MOST_SIGNS = 12
MOST_PLACES = 40
LAST_STEP = 11


def check_signs(text):
    """Refuse a text with a sign that is none from the blank to the tilde."""
    if not all([" " <= sign <= "~" for sign in text]):
        raise NoText("a sign that no text has")


def check_drawn(text, signs, most):
    """Refuse a text that is not drawn from these signs, one to so many of them."""
    if not 1 <= len(text) <= most or not all([sign in signs for sign in text]):
        raise NoText("other signs, or another number of them, than asked for")


def read_number(text):
    """Read a whole number."""
    check_drawn(text[1:] if text.startswith("-") else text, FIGURES, MOST_FIGURES)
    number = int(text)
    # Noughts ahead of other figures, and a sign ahead of 0, are not written.
    if number_text(number) != text:
        raise NoText("a number that is not written so")
    return number


def read_from(least, text):
    """Read a whole number that is not below the least one."""
    number = read_number(text)
    if number < least:
        raise NoText("a number that is too small")
    return number


def read_at(text):
    """Read a number that counts from 0."""
    return read_from(0, text)


def read_nth(text):
    """Read a number that counts from 1."""
    return read_from(1, text)


def read_hand(text):
    """Read a hand."""
    check_drawn(text, LETTERS, MOST_HAND)
    return text


def read_word(text):
    """Read the word of a mark."""
    check_drawn(text, LETTERS, MOST_WORD)
    return text


def read_key(text):
    """Read a key of a map."""
    check_drawn(text, LETTERS, MOST_KEY)
    return text


def read_kind(text):
    """Read a kind."""
    if text not in KINDS:
        raise NoText("no kind")
    return text


def read_signs(text):
    """Read the signs of a write; which signs they are was looked at ahead of it."""
    if not 1 <= len(text) <= MOST_SIGNS:
        raise NoText("too few or too many signs")
    return text


def read_name(text):
    """Read the name of a deed."""
    hand, dot, n = text.partition(".")
    return (read_hand(hand), read_nth(n))


def read_thing(text):
    """Read the name of a thing, or ROOT."""
    return ROOT if text == name_text(ROOT) else read_name(text)


def read_seen(text):
    """Read a seen."""
    if text == "-":
        return ()
    pairs = [read_name(part) for part in text.split(",")]
    hands = [hand for hand, n in pairs]
    if hands != sorted(set(hands)):
        raise NoText("hands that don't rise")
    return tuple(pairs)


def read_side(text):
    """Read a side."""
    if text not in ("<", ">"):
        raise NoText("no side")
    return -1 if text == "<" else 1


def read_step(text):
    """Read a step of a place."""
    parts = text[1:].split(".")
    if len(parts) != 3:
        raise NoText("a step of too few or too many parts")
    side, hand, n, k = (read_side(text[:1]), read_hand(parts[0]), read_nth(parts[1]), read_at(parts[2]))
    if k > LAST_STEP:
        raise NoText("a step beyond the last sign of a write")
    return (side, hand, n, k)


def read_place(text):
    """Read a place, that is not the start."""
    if not text.startswith(">"):
        raise NoText("no place")
    # A row's end is in no text that is read: so it can part the steps.
    parts = text.replace("<", "\n<").replace(">", "\n>").split("\n")
    return tuple([read_step(part) for part in parts[1:]])


def read_under(text):
    """Read a place, or the start."""
    return () if text == "-" else read_place(text)


def read_places(text):
    """Read the places of a cut."""
    parts = text.split(",")
    if len(parts) > MOST_PLACES:
        raise NoText("too many places")
    return tuple([read_place(part) for part in parts])


def check_pair(under, side):
    """Refuse what would stand before the start."""
    if under == () and side == -1:
        raise NoText("nothing is before the start")


def read_spot(text):
    """Read a key, or a pair, that has a blank in it."""
    ahead, blank, behind = text.partition(" ")
    if blank == "":
        return read_key(text)
    under, side = (read_under(ahead), read_side(behind))
    check_pair(under, side)
    return (under, side)


def read_key_or_at(text):
    """Read a key, or a number that counts from 0."""
    return read_at(text) if text[:1] in FIGURES else read_key(text)


READERS = {
    "at": read_at,
    "hand": read_hand,
    "key or at": read_key_or_at,
    "kind": read_kind,
    "name": read_name,
    "nth": read_nth,
    "number": read_number,
    "place": read_place,
    "places": read_places,
    "side": read_side,
    "signs": read_signs,
    "spot": read_spot,
    "thing": read_thing,
    "under": read_under,
    "word": read_word,
}


def read_parts(text, form):
    """Read what stands behind a text's first word, by the form of this word; None is the form of no word."""
    if form is None:
        raise NoText("a word that is not known")
    # The last part is all that is left: signs and pairs have blanks in them, and the others refuse them.
    parts = text.split(" ", len(form))
    if len(parts) != len(form) + 1 or " " in parts[0]:
        raise NoText("too few or too many parts")
    return [READERS[kind](part) for kind, part in zip(form, parts[1:])]


def number_text(number):
    """Write a whole number."""
    return str(number)


def plain_text(text):
    """Write what is a text already."""
    return text


def name_text(name):
    """Write a name, or ROOT."""
    hand, n = name
    return f"{hand}.{n}"


def names_text(names):
    """Write names parted by blanks, and no names as -."""
    return " ".join([name_text(name) for name in names]) if names else "-"


def seen_text(seen):
    """Write a seen."""
    return ",".join([name_text(pair) for pair in seen]) if seen else "-"


def side_text(side):
    """Write a side."""
    return "<" if side == -1 else ">"


def step_text(step):
    """Write a step of a place."""
    side, hand, n, k = step
    return side_text(side) + f"{hand}.{n}.{k}"


def place_text(place):
    """Write a place, or the start."""
    return "".join([step_text(step) for step in place]) if place else "-"


def places_text(places):
    """Write the places of a cut."""
    return ",".join([place_text(place) for place in places])


def spot_text(spot):
    """Write a key or a pair."""
    if isinstance(spot, str):
        return spot
    return place_text(spot[0]) + " " + side_text(spot[1])


WRITERS = {
    "kind": plain_text,
    "nth": number_text,
    "number": number_text,
    "place": place_text,
    "places": places_text,
    "side": side_text,
    "signs": plain_text,
    "spot": spot_text,
    "thing": name_text,
    "under": place_text,
    "word": plain_text,
}


def parts_text(parts, form):
    """Write what stands behind a text's first word, by the form of this word: each part behind a blank."""
    return "".join([" " + WRITERS[kind](part) for kind, part in zip(form, parts)])
