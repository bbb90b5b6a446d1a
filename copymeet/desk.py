"""Desks: what a hand has taken in and does, what it can throw away, and how two of them meet."""

from copymeet.deeds import covers, in_order, stamp, widened
from copymeet.errors import NoDeed, NoHand, NoPlace, NoThing, Ring, Settled, Swept
from copymeet.fold import Folding, empty, fold
from copymeet.force import in_force
from copymeet.kinds import kind_for
from copymeet.places import before
from copymeet.sweep import bound, settled, sunk


def check_act(folding, act):
    """Refuse an act that can't be done as things stand; backs and settles are not looked at here."""
    word = act[0]
    if word != "make":
        check_thing(folding.tree, word, act[1])
    if word in ("make", "move") and not folding.tree.takes(act[2], act[3]):
        raise NoThing(act[2])
    if word == "move":
        check_ring(folding.tree, act[1], act[2])
    elif word == "cut":
        check_places(folding.leaves[act[1]], act[2])
    elif word in ("mark", "clear"):
        check_places(folding.leaves[act[1]], act[2:4])
        if before(act[3], act[2]):
            raise NoPlace(act[2])


def check_thing(tree, word, thing):
    """Refuse a thing that was not made, or is not of the kind that the act of this word is for."""
    kind = kind_for(word)
    # A move and a drop are for things of any kind, but not for ROOT, that was never made.
    if tree.held(thing) is None or kind is not None and tree.kind_of(thing) != kind:
        raise NoThing(thing)


def check_ring(tree, thing, holder):
    """Refuse to move a thing into itself."""
    ring = tree.ring(thing, holder)
    if ring:
        raise Ring(ring)


def check_places(text, places):
    """Refuse the first of the places at which no sign stands."""
    for place in places:
        if not text.stands_at(place):
            raise NoPlace(place)


class Desk:
    """The desk of a hand among the hands."""

    def __init__(self, hand, hands):
        if hand not in hands:
            raise NoHand("a desk is for one of the hands")
        self.hand = hand
        self.hands = list(hands)
        # Seens: of what was taken in, and of what was thrown away since.
        self.taken = ()
        self.thrown = ()
        # Deeds by their names: held, and heard too early.
        self.kept = {}
        self.early = {}
        # For each hand its last settle, thrown away or not: what the bound hangs on.
        self.settles = {}
        self.floor = 0
        self.ground = empty()
        # What now is, once it was asked for; None where it has to be folded anew.
        self.folding = None

    def do(self, act):
        """Do an act, and tell its deed."""
        number = dict(self.taken).get(self.hand, 0)
        if act[0] == "back":
            self.check_back(act[1], act[2], number)
        elif act[0] != "settle":
            check_act(self.folded(), act)
        deed = ((self.hand, number + 1), self.taken, act)
        self.take_in(deed)
        if act[0] == "back":
            self.folding = None
        elif self.folding is not None:
            # It has seen all that was taken in, so it is the last in the order.
            self.folding.hear(deed)
        return deed

    def check_back(self, first, last, number):
        """Refuse a back of deeds that are not there, or not above the hand's last settle."""
        if not 1 <= first <= last <= number:
            raise NoDeed("no such deeds to take back")
        if self.hand in self.settles:
            settle_number = self.settles[self.hand][0][1]
            if first <= settle_number:
                raise Settled(settle_number)

    def hear(self, deeds):
        """Take in the deeds of which all that they have seen is there, and tell their names; others wait."""
        for deed in deeds:
            if not covers(self.taken, deed[0]):
                self.early.setdefault(deed[0], deed)
        heard = []
        # In the order, so that what a deed has seen comes ahead of it.
        waiting = in_order(list(self.early.values()))
        for deed in waiting:
            if all([covers(self.taken, pair) for pair in deed[1]]):
                self.early.pop(deed[0])
                self.take_in(deed)
                heard.append(deed[0])
        if heard:
            self.folding = None
        return heard

    def take_in(self, deed):
        """Keep a deed of which all that it has seen is taken in."""
        name, seen, act = deed
        self.kept[name] = deed
        self.taken = widened(self.taken, name)
        if act[0] == "settle":
            self.settles[name[0]] = deed

    def seen(self):
        """Tell the seen of what was taken in."""
        return self.taken

    def waiting(self):
        """Tell the names of the deeds that wait, sorted."""
        return sorted(self.early)

    def held(self):
        """Tell the deeds taken in and not thrown away, in the order."""
        return in_order(list(self.kept.values()))

    def lacks(self, seen):
        """Tell the held deeds that a seen doesn't cover; Swept where it doesn't cover one that was thrown away."""
        for hand, n in self.thrown:
            if not covers(seen, (hand, n)):
                # The deeds thrown away are the hand's first ones, up to n.
                raise Swept((hand, dict(seen).get(hand, 0) + 1))
        return [deed for deed in self.held() if not covers(seen, deed[0])]

    def folded(self):
        """Tell what now is, to be looked at and not changed."""
        if self.folding is None:
            self.folding = Folding(self.ground)
            for deed in in_force(self.held()):
                # What is not above the bound of the last sweep is in its base.
                if stamp(deed) > self.floor:
                    self.folding.hear(deed)
        return self.folding

    def now(self):
        """Tell the fold of the deeds in force among all that was taken in."""
        return self.folded().base()

    def told(self):
        """Tell what now tells."""
        return self.folded().told()

    def sweep(self):
        """Fold what is settled into the base, throw away what is sunk, and tell the names thrown away."""
        # Of what was thrown away earlier only the hands' last settles still count. A hand's last deed is held, or is
        # its last settle, as nothing sinks that is behind that; and what takes back a held deed is held, too, as
        # what was thrown away of a hand are its first deeds.
        deeds = self.held() + list(self.settles.values())
        fresh = [deed for deed in settled(self.hands, deeds) if stamp(deed) > self.floor]
        gone = [name for name in sunk(self.hands, deeds) if name in self.kept]
        self.ground = fold(self.ground, fresh)
        self.floor = bound(self.hands, deeds)
        for name in gone:
            self.kept.pop(name)
            self.thrown = widened(self.thrown, name)
        return gone

    def bound(self):
        """Tell the bound of the last sweep."""
        return self.floor

    def base(self):
        """Tell the base of the last sweep."""
        # Folding nothing upon it makes a copy with lists of its own.
        return fold(self.ground, [])


def meet(one, other):
    """Let two desks send each other what they lack, and tell what the one and what the other sent."""
    from_one = one.lacks(other.seen())
    from_other = other.lacks(one.seen())
    other.hear(from_one)
    one.hear(from_other)
    return (from_one, from_other)
