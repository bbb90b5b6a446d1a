"""Names, seens and the one order of deeds.

A name is (hand, n), a seen a tuple of such pairs with the hands rising, a deed (name, seen, act).
"""

ROOT = ("", 0)


def covers(seen, name):
    """Tell whether the seen covers the name."""
    for hand, n in seen:
        if hand == name[0]:
            return name[1] <= n
    # Not "n is 0 there": a seen without the hand covers no name of it, and so never ROOT.
    return False


def joined(one, other):
    """Tell the seen that covers just what one or both of two seens cover."""
    numbers = dict(one)
    for hand, n in other:
        numbers[hand] = max(n, numbers.get(hand, n))
    return tuple(sorted(numbers.items()))


def widened(seen, name):
    """Tell the seen that covers, beside, the deeds of the name's hand up to its number."""
    # A name has the form of a pair of a seen, and covers as much as one.
    return joined(seen, (name,))


def stamp(deed):
    """Tell 1 and the sum of all numbers in the deed's seen."""
    return 1 + sum([pair[1] for pair in deed[1]])


def rank(deed):
    """Tell what deeds are ordered by: the stamp, then the hand, then the number."""
    hand, n = deed[0]
    return (stamp(deed), hand, n)


def ahead(one, other):
    """Tell whether the one deed is ahead of the other in the order."""
    return rank(one) < rank(other)


def in_order(deeds):
    """Tell the deeds of a list in the order, each name once."""
    by_name = {}
    for deed in deeds:
        by_name[deed[0]] = deed
    return sorted(by_name.values(), key=rank)
