"""Which deeds of a list are in force, and which back took the others."""

from copymeet.deeds import in_order


def name_of(deed):
    """Tell the deed's name, by which the deeds of each hand are walked."""
    return deed[0]


def taker_of(n, backs):
    """Tell the name of the first of some backs that has n from its first to its last number, or None."""
    for back in backs:
        word, first, last = back[2]
        if first <= n <= last:
            return back[0]
    return None


def takers(deeds):
    """Tell, by its name, for each deed that is not in force the back that is named for it."""
    taken = {}
    backs = {}
    # A deed can be taken by greater numbers of its hand alone, so each hand is walked from its greatest
    # number down: the backs kept are then all in force, and the first that reaches a deed is the one to name.
    for deed in sorted(deeds, key=name_of, reverse=True):
        hand, n = deed[0]
        word = deed[2][0]
        if word == "settle":
            # No back above a settle reaches it or a deed below it.
            backs[hand] = []
            continue
        by = taker_of(n, backs.get(hand, []))
        if by is not None:
            taken[deed[0]] = by
        elif word == "back":
            backs.setdefault(hand, []).append(deed)
    return taken


def taken_by(deeds):
    """Tell rows (name, name) in the order: each deed that is not in force, and the back named for it."""
    ordered = in_order(deeds)
    taken = takers(ordered)
    return [(deed[0], taken[deed[0]]) for deed in ordered if deed[0] in taken]


def in_force(deeds):
    """Tell the deeds that no back in force reaches, in the order, each once."""
    ordered = in_order(deeds)
    taken = takers(ordered)
    return [deed for deed in ordered if deed[0] not in taken]
