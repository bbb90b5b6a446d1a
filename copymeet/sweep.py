"""What every hand is known to have seen, and what can't change any more: sunk and settled deeds."""

from copymeet.deeds import covers, in_order, stamp, widened
from copymeet.force import in_force


def number_of(deed):
    """Tell the number of a deed among those of its hand."""
    return deed[0][1]


def last_of(hand, deeds):
    """Tell the hand's deed of the greatest number, None where it has none."""
    return max([deed for deed in deeds if deed[0][0] == hand], key=number_of, default=None)


def known(hand, deeds):
    """Tell, as a seen, what the hand is known to have seen."""
    last = last_of(hand, deeds)
    return () if last is None else widened(last[1], last[0])


def bound(hands, deeds):
    """Tell the least stamp among the hands' last settles, 0 where one of them has none."""
    settles = [deed for deed in deeds if deed[2][0] == "settle"]
    lasts = [last_of(hand, settles) for hand in hands]
    return min([0 if deed is None else stamp(deed) for deed in lasts])


def sunk(hands, deeds):
    """Tell the names of the deeds up to the bound that each hand is known to have seen, in the order."""
    highest = bound(hands, deeds)
    low = [deed[0] for deed in in_order(deeds) if stamp(deed) <= highest]
    seens = [known(hand, deeds) for hand in hands]
    return [name for name in low if all([covers(seen, name) for seen in seens])]


def settled(hands, deeds):
    """Tell the deeds in force up to the bound, in the order."""
    highest = bound(hands, deeds)
    return [deed for deed in in_force(deeds) if stamp(deed) <= highest]
