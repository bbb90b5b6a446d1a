"""Places in rows and texts: their one order, and where something new comes to stand.

A place is a tuple of steps (side, hand, n, k), and () is the start. A pair (under, side) tells where something
shall stand: before the place under (side -1) or behind it (side 1).
"""

from copymeet.errors import NoPlace


def rank_of(place):
    """Tell what places are ordered by."""
    # An end between the sides -1 and 1: so what is put before a place comes ahead of the place's own end, what is
    # put behind it comes later, and plain tuples compare as places do.
    return place + ((0,),)


def row_rank(row):
    """Tell what rows that begin with their place are ordered by."""
    return rank_of(row[0])


def before(one, other):
    """Tell whether the one place is before the other; each may be the start."""
    return rank_of(one) < rank_of(other)


def gap(left, right):
    """Tell the pair by which something comes to stand behind left and before right; None is behind all."""
    if right is None:
        return (left, 1)
    if not before(left, right):
        raise NoPlace(left)
    if right[:len(left)] == left:
        return (right, -1)
    return (left, 1)


def place_of(spot, name):
    """Tell the place of what the deed of this name puts by a pair."""
    under, side = spot
    hand, n = name
    return under + ((side, hand, n, 0),)


def places_of(deed):
    """Tell the places of a write's signs, the first sign's first."""
    name, seen, act = deed
    word, thing, under, side, signs = act
    hand, n = name
    places = [place_of((under, side), name)]
    for k in range(1, len(signs)):
        places.append(places[k - 1] + ((1, hand, n, k),))
    return places
