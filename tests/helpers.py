"""Deeds for the tests, lists of deeds by a chance that is the same each time, and the document's words done slowly."""

import functools
import random

from copymeet.errors import MeetError
from copymeet.force import in_force

ROOT = ("", 0)
COUNT = ("ann", 1)
BIG = 10 ** 12 - 1
GREAT_AMOUNT = 10 ** 40 - 1


def deed(hand, n, act=("add", COUNT, 1), **others):
    """A deed with its own hand's pair as [7] asks, and the pairs of others beside."""
    pairs = dict(others)
    if n > 1:
        pairs[hand] = n - 1
    return ((hand, n), tuple(sorted(pairs.items())), act)


def add(hand, n, **others):
    return deed(hand, n, **others)


def back(hand, n, first, last, **others):
    return deed(hand, n, ("back", first, last), **others)


def settle(hand, n, **others):
    return deed(hand, n, ("settle",), **others)


def names(deeds):
    return [one[0] for one in deeds]


def some_seen(chance, hands, greatest):
    """A seen of some of the hands."""
    return tuple(sorted((hand, chance.randint(1, greatest)) for hand in hands if chance.random() < 0.6))


def some_act(chance, n, numbers):
    """Mostly backs, that end around the numbers given, and now and then a settle."""
    roll = chance.random()
    if roll < 0.12:
        return ("settle",)
    if roll < 0.6:
        first = max(1, chance.choice(numbers) + chance.randint(-1, 1))
        last = max(1, chance.choice(numbers + [n]) + chance.randint(-1, 1))
        return ("back", first, last)
    return ("add", COUNT, chance.randint(-5, 5))


def some_hand(chance, hand, others, step):
    """Deeds of one hand, with gaps between their numbers, that are multiples of step and neighbours of such."""
    numbers = sorted({max(1, step * chance.randint(0, 12) + chance.randint(0, 1)) for turn in range(14)})
    made = []
    for n in numbers:
        seen = dict(some_seen(chance, others, 12 * step))
        made.append(deed(hand, n, some_act(chance, n, numbers), **seen))
    return made


def some_list(seed):
    """A list of deeds of some hands, in any order, some told twice."""
    chance = random.Random(seed)
    hands = chance.sample(["an", "ann", "anna", "bob", "z"], chance.randint(1, 3))
    step = chance.choice([1, 1, 2, 10 ** 10])
    made = []
    for hand in hands:
        made.extend(some_hand(chance, hand, [other for other in hands if other != hand], step))
    made.extend(chance.sample(made, len(made) // 3))
    chance.shuffle(made)
    return made


def add_of(amount, thing=COUNT):
    return ("add", thing, amount)


def step(side, hand, n, k=0):
    return (side, hand, n, k)


def write(hand, n, signs, under=(), side=1, thing=COUNT, **others):
    return deed(hand, n, ("write", thing, under, side, signs), **others)


# One act of each word.
ACTS = [
    ("make", "map", ("", 0), "key"),
    ("make", "text", ("ann", 1), ((), 1)),
    ("move", ("bob", 1), ("", 0), "key"),
    ("drop", ("bob", 1)),
    ("add", COUNT, 3),
    ("choose", COUNT, 3),
    ("put", COUNT, 3),
    ("take", COUNT, 3),
    ("write", COUNT, (), 1, "new"),
    ("cut", COUNT, ((step(1, "ann", 1),), (step(1, "ann", 2),))),
    ("mark", COUNT, (step(1, "ann", 1),), (step(1, "zoe", 9),), "bold"),
    ("clear", COUNT, (step(1, "ann", 1),), (step(1, "zoe", 9),), "bold"),
    ("back", 1, 9),
    ("settle",),
]


def some_step(chance, side=None):
    side = side or chance.choice([-1, 1])
    return (side, chance.choice(["a", "ann", "bob"]), chance.choice([1, 2, 10]), chance.choice([0, 1, 10, 11]))


def some_places(chance, count):
    """Places that often share their first steps, each once."""
    made = [(some_step(chance, 1),) for turn in range(3)]
    while len(made) < count:
        under = chance.choice(made)
        made.append(under[:chance.randint(1, len(under))] + (some_step(chance),))
    return list(dict.fromkeys(made))


def chain(hand, length):
    """A place of many steps, each the sign behind the one ahead of it."""
    return tuple(step(1, hand, 1 + k // 12, k % 12) for k in range(length))


def before_by_words(one, other):
    """The words of [16], one by one."""
    for mine, theirs in zip(one, other):
        for part, facing in zip(mine, theirs):
            if part != facing:
                return part < facing
    if len(one) > len(other):
        return one[len(other)][0] == -1
    return len(one) < len(other) and other[len(one)][0] == 1


def mark(hand, n, first, last, word="bold", thing=COUNT, **others):
    return deed(hand, n, ("mark", thing, first, last, word), **others)


def clear(hand, n, first, last, word="bold", thing=COUNT, **others):
    return deed(hand, n, ("clear", thing, first, last, word), **others)


def cut(hand, n, places, thing=COUNT, **others):
    return deed(hand, n, ("cut", thing, tuple(places)), **others)


def within_by_words(place, first, last):
    """The words of [22]."""
    return not before_by_words(place, first) and not before_by_words(last, place)


def covers_by_words(seen, name):
    """The words of [6]."""
    return any(hand == name[0] and name[1] <= n for hand, n in seen)


def stamp_by_words(one):
    """The words of [8]."""
    return 1 + sum(n for hand, n in one[1])


def ordered_by_words(deeds):
    """The words of [8]: the order, each name once."""
    return sorted(dict.fromkeys(deeds), key=lambda one: (stamp_by_words(one), one[0]))


def by_places(rows, place_of_row):
    """Rows sorted by the words of [16]."""
    def compared(one, other):
        return -1 if before_by_words(place_of_row(one), place_of_row(other)) else 1
    return sorted(rows, key=functools.cmp_to_key(compared))


class TreeByWords:
    """The words of [26] to [28], slowly: what lies within a thing is looked for from above."""

    def __init__(self):
        self.kinds, self.spots, self.lost = {ROOT: "map"}, {}, []

    def held_by(self, thing):
        return [inner for inner, spot in self.spots.items() if spot[0] == thing]

    def below(self, thing):
        found = [thing]
        for inner in self.held_by(thing):
            found += self.below(inner)
        return found

    def fits(self, holder, spot):
        return self.kinds.get(holder) == ("map" if type(spot) is str else "row")

    def hear(self, one):
        name, seen, act = one
        if act[0] == "make":
            thing, holder, spot = name, act[2], act[3]
            if not self.fits(holder, spot):
                return "idle"
            self.kinds[name] = act[1]
        else:
            thing = act[1]
            if thing == ROOT or thing not in self.kinds:
                return "idle"
            if act[0] == "drop":
                self.spots[thing] = (None, None)
                return "done"
            holder, spot = act[2], act[3]
            if not self.fits(holder, spot):
                return "idle"
            if holder in self.below(thing):
                self.lost.append(name)
                return "lost"
        if type(spot) is tuple:
            spot = spot[0] + ((spot[1], name[0], name[1], 0),)
        self.spots[thing] = (holder, spot)
        return "done"

    def way_up(self, thing, holder):
        """From the holder to the thing, that it lies within."""
        way = [holder]
        while way[-1] != thing:
            way.append(self.spots[way[-1]][0])
        return way

    def rows(self):
        return [(thing, self.kinds[thing]) + self.spots[thing] for thing in sorted(self.spots)]

    def within(self, thing):
        if self.kinds[thing] == "row":
            return by_places(self.held_by(thing), lambda inner: self.spots[inner][1])
        return sorted(self.held_by(thing), key=lambda inner: (self.spots[inner][1], inner))


def numbers_by_words(deeds):
    """The words of [12] and [13]: the rows that come of chooses, or of puts and takes."""
    rows = []
    for name, seen, (word, thing, number) in deeds:
        if word != "put":
            rows = [row for row in rows
                    if not covers_by_words(seen, row[0]) or word == "take" and row[1] != number]
        if word != "take":
            rows = rows + [(name, number)]
    return rows


def signs_by_words(deeds):
    """The words of [18] and [20]: rows of signs."""
    kept = {}
    for name, seen, act in deeds:
        if act[0] == "write":
            place = act[2] + ((act[3],) + name + (0,),)
            for k, sign in enumerate(act[4]):
                place = place + ((1,) + name + (k,),) if k else place
                kept[place] = sign
        elif act[0] == "cut":
            kept = {place: sign for place, sign in kept.items() if place not in act[2]}
    return by_places(list(kept.items()), lambda row: row[0])


def marks_by_words(deeds):
    """The words of [23]: rows of marks."""
    rows = []
    for name, seen, act in deeds:
        if act[0] == "mark":
            rows.append((name, act[2], act[3], act[4], []))
        elif act[0] == "clear":
            for row in rows:
                if row[3] == act[4] and covers_by_words(seen, row[0]):
                    row[4].append((act[2], act[3]))
    return rows


def words_by_words(rows, place):
    """The words of [24]: the words that rows of marks tell at a place."""
    told = set()
    for name, first, last, word, holes in rows:
        if within_by_words(place, first, last) and not any(within_by_words(place, *hole) for hole in holes):
            told.add(word)
    return sorted(told)


KIND_OF_ACT = {"add": "count", "choose": "choice", "put": "bag", "take": "bag", "write": "text", "cut": "text",
               "mark": "text", "clear": "text"}


class FoldByWords(TreeByWords):
    """The words of [29] to [31], slowly: each leaf keeps all deeds that it heard."""

    def __init__(self, deeds):
        TreeByWords.__init__(self)
        self.heard = {}
        self.outcomes = [self.hear(one) for one in ordered_by_words(deeds)]

    def hear(self, one):
        act = one[2]
        if act[0] in ("make", "move", "drop"):
            return TreeByWords.hear(self, one)
        if act[0] in KIND_OF_ACT:
            if self.kinds.get(act[1]) != KIND_OF_ACT[act[0]]:
                return "idle"
            self.heard.setdefault(act[1], []).append(one)
        return "done"

    def content(self, thing):
        kind, deeds = self.kinds[thing], self.heard.get(thing, [])
        if kind == "count":
            return sum(one[2][2] for one in deeds)
        if kind in ("choice", "bag"):
            return numbers_by_words(deeds)
        return (signs_by_words(deeds), marks_by_words(deeds)) if kind == "text" else None

    def base(self):
        return ([row + (self.content(row[0]),) for row in self.rows()], self.lost)

    def told(self, thing=ROOT):
        kind = self.kinds[thing]
        if kind in ("map", "row"):
            return (kind, [(self.spots[inner][1], inner, self.told(inner)) for inner in self.within(thing)])
        content = self.content(thing)
        if kind == "count":
            return (kind, content)
        if kind == "text":
            return (kind, [(place, sign, words_by_words(content[1], place)) for place, sign in content[0]])
        return (kind, sorted({number for name, number in content}))


class History:
    """Honest deeds of some hands that work apart, hear of one another now and then, and do this and that."""

    def __init__(self, seed, hands, settling=0.04):
        self.chance = random.Random(seed)
        self.hands = list(hands)
        self.settling = settling
        self.deeds = {}
        self.seen = {hand: {} for hand in hands}

    def go_on(self, count):
        """Do so many deeds more; tells all, each behind what it has seen."""
        goal = len(self.deeds) + count
        while len(self.deeds) < goal:
            hand = self.chance.choice(self.hands)
            if self.chance.random() < 0.3:
                self.learn(hand, self.chance.choice(list(self.deeds.values()) or [None]))
            else:
                self.do(hand, self.some_act(hand))
        return list(self.deeds.values())

    def learn(self, hand, one):
        """Let a hand see a deed and all that it has seen."""
        for other, n in (one[1] + (one[0],) if one else ()):
            self.seen[hand][other] = max(n, self.seen[hand].get(other, 0))

    def learn_all(self, hand):
        for one in list(self.deeds.values()):
            self.learn(hand, one)

    def do(self, hand, act):
        seen = self.seen[hand]
        one = ((hand, seen.get(hand, 0) + 1), tuple(sorted(seen.items())), act)
        self.deeds[one[0]] = one
        seen[hand] = one[0][1]
        return one

    def known_acts(self, hand, words):
        """The deeds with acts of these words that the hand has seen, or now and then any."""
        wild = self.chance.random() < 0.1
        seen = self.seen[hand]
        return [one for one in self.deeds.values()
                if one[2][0] in words and (wild or one[0][1] <= seen.get(one[0][0], 0))]

    def some_thing(self, hand, kinds):
        """A thing of one of these kinds, now and then of any kind, or one that is not there."""
        makes = self.known_acts(hand, ["make"])
        if self.chance.random() < 0.9:
            makes = [one for one in makes if one[2][1] in kinds]
        return self.chance.choice([one[0] for one in makes] or [("zz", 1)])

    def some_holder(self, hand):
        return ROOT if self.chance.random() < 0.3 else self.some_thing(hand, ["map", "row"])

    def some_spot(self, hand, holder):
        one = self.deeds.get(holder)
        if (one is None or one[2][1] != "row") != (self.chance.random() < 0.05):
            return self.chance.choice(["a", "b", "c"])
        puts = [one for one in self.known_acts(hand, ["make", "move"]) if type(one[2][3]) is tuple]
        places = [one[2][3][0] + ((one[2][3][1],) + one[0] + (0,),) for one in puts]
        under = self.chance.choice(places + [()])
        return (under, self.chance.choice([-1, 1]) if under else 1)

    def some_signs(self, hand, thing):
        """Places at which the text has, or had, signs."""
        writes = [one for one in self.known_acts(hand, ["write"]) if one[2][1] == thing]
        places = []
        for name, seen, act in writes:
            whole = act[2] + ((act[3],) + name + (0,),) + tuple((1,) + name + (k,) for k in range(1, len(act[4])))
            places += [whole[:len(act[2]) + k] for k in range(1, len(act[4]) + 1)]
        return places

    def some_act(self, hand):
        """Some act; mostly a make where the hand knows no thing that the act could be about."""
        act = self.wild_act(hand)
        if ("zz", 1) in act and self.chance.random() < 0.9:
            return ("make", KIND_OF_ACT.get(act[0], self.chance.choice(["map", "row"])), ROOT, "d")
        return act

    def wild_act(self, hand):
        chance = self.chance
        roll = chance.random()
        if roll < self.settling:
            return ("settle",)
        if roll < 0.12:
            last = self.seen[hand].get(hand, 0) + 1
            first = chance.randint(max(1, last - 6), last)
            return ("back", first, chance.randint(first, last))
        if roll < 0.27:
            holder = self.some_holder(hand)
            kind = chance.choice(["map", "row", "count", "choice", "bag", "text", "text"])
            return ("make", kind, holder, self.some_spot(hand, holder))
        if roll < 0.42:
            holder = self.some_holder(hand)
            thing = self.some_thing(hand, self.chance.choice([["map", "row"], ["count", "text"]]))
            return ("move", thing, holder, self.some_spot(hand, holder))
        if roll < 0.46:
            return ("drop", self.some_thing(hand, ["map", "row", "count", "choice", "bag", "text"]))
        if roll < 0.7:
            word = chance.choice(["add", "choose", "choose", "put", "put", "take", "take"])
            return (word, self.some_thing(hand, [KIND_OF_ACT[word]]), chance.randint(1, 2))
        return self.some_text_act(hand)

    def some_text_act(self, hand):
        chance = self.chance
        thing = self.some_thing(hand, ["text"])
        places = self.some_signs(hand, thing)
        roll = chance.random()
        if roll < 0.45 or not places:
            under = chance.choice(places + [()])
            side = chance.choice([-1, 1]) if under else 1
            return ("write", thing, under, side, "".join(chance.choice("ab ") for k in range(chance.randint(1, 3))))
        if roll < 0.7:
            return ("cut", thing, tuple(chance.choice(places) for k in range(chance.randint(1, 5))))
        word = "mark" if roll < 0.9 else "clear"
        return (word, thing, chance.choice(places), chance.choice(places), chance.choice(["red", "bold"]))


def some_history(seed, count=40, hands=("ann", "bob", "cyd")):
    """Honest deeds, each behind what it has seen."""
    return History(seed, hands).go_on(count)


def shuffled(seed, deeds):
    """The deeds in another order, some of them twice."""
    chance = random.Random(seed)
    made = list(deeds) + chance.sample(list(deeds), len(deeds) // 3)
    chance.shuffle(made)
    return made


def refused(doing, *given):
    """What a call is refused with, as (the error's class by name, its fields), or None where it is not."""
    try:
        doing(*given)
    except MeetError as error:
        return (type(error).__name__, vars(error))
    return None


class DeskByWords:
    """The words of [37] to [41], slowly: all deeds are kept, and all is folded anew at each asking."""

    def __init__(self, hand, hands):
        self.hand, self.hands = hand, list(hands)
        self.taken, self.early, self.thrown = {}, {}, {}

    def deeds(self):
        return ordered_by_words(self.taken.values())

    def fold(self):
        return FoldByWords(in_force(self.deeds()))

    def seen(self):
        numbers = {}
        for hand, n in self.taken:
            numbers[hand] = max(n, numbers.get(hand, 0))
        return tuple(sorted(numbers.items()))

    def has_all(self, seen):
        return all((hand, k) in self.taken for hand, n in seen for k in range(1, n + 1))

    def hear(self, deeds):
        for one in deeds:
            if one[0] not in self.taken:
                self.early[one[0]] = one
        heard, ready = [], True
        while ready:
            ready = [one for one in self.early.values() if self.has_all(one[1])]
            for one in ready:
                self.taken[one[0]] = self.early.pop(one[0])
                heard.append(one)
        return [one[0] for one in ordered_by_words(heard)]

    def do(self, act):
        n = len([name for name in self.taken if name[0] == self.hand]) + 1
        one = ((self.hand, n), self.seen(), act)
        self.taken[one[0]] = one
        return one

    def refusal(self, act):
        """What has to be refused, as refused tells it."""
        fold = self.fold()
        word = act[0]
        if word in ("move", "drop") and act[1] not in fold.spots:
            return ("NoThing", {"thing": act[1]})
        if word in KIND_OF_ACT and fold.kinds.get(act[1]) != KIND_OF_ACT[word]:
            return ("NoThing", {"thing": act[1]})
        if word in ("make", "move") and not fold.fits(act[2], act[3]):
            return ("NoThing", {"thing": act[2]})
        if word == "move" and act[2] in fold.below(act[1]):
            return ("Ring", {"things": fold.way_up(act[1], act[2])})
        if word in ("cut", "mark", "clear"):
            return self.refused_place(act, dict(fold.content(act[1])[0]))
        return self.refused_back(act) if word == "back" else None

    def refused_place(self, act, standing):
        places = act[2] if act[0] == "cut" else act[2:4]
        missing = [place for place in places if place not in standing]
        if not missing and act[0] != "cut" and before_by_words(act[3], act[2]):
            missing = [act[2]]
        return ("NoPlace", {"place": missing[0]}) if missing else None

    def refused_back(self, act):
        own = [one for one in self.taken.values() if one[0][0] == self.hand]
        settles = [one[0][1] for one in own if one[2] == ("settle",)]
        if not 1 <= act[1] <= act[2] <= len(own):
            return ("NoDeed", {})
        return ("Settled", {"number": max(settles)}) if settles and act[1] <= max(settles) else None

    def lacks(self, seen):
        """The deeds, or a refusal as refused tells it."""
        missing = sorted(name for name in self.thrown if not covers_by_words(seen, name))
        if missing:
            return ("Swept", {"deed": missing[0]})
        held = [one for one in self.deeds() if one[0] not in self.thrown]
        return [one for one in held if not covers_by_words(seen, one[0])]


def last_by_words(hand, deeds):
    own = [one for one in deeds if one[0][0] == hand]
    return max(own, key=lambda one: one[0][1]) if own else None


def knows_by_words(hand, deeds, name):
    """The words of [34]."""
    last = last_by_words(hand, deeds)
    return last is not None and (covers_by_words(last[1], name) or last[0][0] == name[0] and name[1] <= last[0][1])


def bound_by_words(hands, deeds):
    """The words of [34]."""
    lasts = [last_by_words(hand, [one for one in deeds if one[2] == ("settle",)]) for hand in hands]
    return 0 if None in lasts else min(stamp_by_words(one) for one in lasts)


def sunk_by_words(hands, deeds):
    """The words of [35]."""
    low = [one for one in ordered_by_words(deeds) if stamp_by_words(one) <= bound_by_words(hands, deeds)]
    return [one[0] for one in low if all(knows_by_words(hand, deeds, one[0]) for hand in hands)]


def settled_by_words(hands, deeds):
    """The words of [35]."""
    return [one for one in in_force(deeds) if stamp_by_words(one) <= bound_by_words(hands, deeds)]
