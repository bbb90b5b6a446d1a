"""Deeds for the tests, and lists of deeds by a chance that is the same each time."""

import random

COUNT = ("ann", 1)
BIG = 10 ** 12 - 1
GREAT_AMOUNT = 10 ** 40 - 1


def deed(hand, n, act=("add", COUNT, 1), **others):
    """A deed with its own hand's pair as [7] asks, and the pairs of others beside."""
    pairs = dict(others)
    if n > 1:
        pairs[hand] = n - 1
    return ((hand, n), tuple(sorted(pairs.items())), act)


def add(hand, n, **others):
    return deed(hand, n, **others)


def back(hand, n, first, last, **others):
    return deed(hand, n, ("back", first, last), **others)


def settle(hand, n, **others):
    return deed(hand, n, ("settle",), **others)


def names(deeds):
    return [one[0] for one in deeds]


def some_seen(chance, hands, greatest):
    """A seen of some of the hands."""
    return tuple(sorted((hand, chance.randint(1, greatest)) for hand in hands if chance.random() < 0.6))


def some_act(chance, n, numbers):
    """Mostly backs, that end around the numbers given, and now and then a settle."""
    roll = chance.random()
    if roll < 0.12:
        return ("settle",)
    if roll < 0.6:
        first = max(1, chance.choice(numbers) + chance.randint(-1, 1))
        last = max(1, chance.choice(numbers + [n]) + chance.randint(-1, 1))
        return ("back", first, last)
    return ("add", COUNT, chance.randint(-5, 5))


def some_hand(chance, hand, others, step):
    """Deeds of one hand, with gaps between their numbers, that are multiples of step and neighbours of such."""
    numbers = sorted({max(1, step * chance.randint(0, 12) + chance.randint(0, 1)) for turn in range(14)})
    made = []
    for n in numbers:
        seen = dict(some_seen(chance, others, 12 * step))
        made.append(deed(hand, n, some_act(chance, n, numbers), **seen))
    return made


def some_list(seed):
    """A list of deeds of some hands, in any order, some told twice."""
    chance = random.Random(seed)
    hands = chance.sample(["an", "ann", "anna", "bob", "z"], chance.randint(1, 3))
    step = chance.choice([1, 1, 2, 10 ** 10])
    made = []
    for hand in hands:
        made.extend(some_hand(chance, hand, [other for other in hands if other != hand], step))
    made.extend(chance.sample(made, len(made) // 3))
    chance.shuffle(made)
    return made


def add_of(amount, thing=COUNT):
    return ("add", thing, amount)


def step(side, hand, n, k=0):
    return (side, hand, n, k)


def write(hand, n, signs, under=(), side=1, thing=COUNT, **others):
    return deed(hand, n, ("write", thing, under, side, signs), **others)


# One act of each word.
ACTS = [
    ("make", "map", ("", 0), "key"),
    ("make", "text", ("ann", 1), ((), 1)),
    ("move", ("bob", 1), ("", 0), "key"),
    ("drop", ("bob", 1)),
    ("add", COUNT, 3),
    ("choose", COUNT, 3),
    ("put", COUNT, 3),
    ("take", COUNT, 3),
    ("write", COUNT, (), 1, "new"),
    ("cut", COUNT, ((step(1, "ann", 1),), (step(1, "ann", 2),))),
    ("mark", COUNT, (step(1, "ann", 1),), (step(1, "zoe", 9),), "bold"),
    ("clear", COUNT, (step(1, "ann", 1),), (step(1, "zoe", 9),), "bold"),
    ("back", 1, 9),
    ("settle",),
]


def some_step(chance, side=None):
    side = side or chance.choice([-1, 1])
    return (side, chance.choice(["a", "ann", "bob"]), chance.choice([1, 2, 10]), chance.choice([0, 1, 10, 11]))


def some_places(chance, count):
    """Places that often share their first steps, each once."""
    made = [(some_step(chance, 1),) for turn in range(3)]
    while len(made) < count:
        under = chance.choice(made)
        made.append(under[:chance.randint(1, len(under))] + (some_step(chance),))
    return list(dict.fromkeys(made))


def chain(hand, length):
    """A place of many steps, each the sign behind the one ahead of it."""
    return tuple(step(1, hand, 1 + k // 12, k % 12) for k in range(length))


def before_by_words(one, other):
    """The words of [16], one by one."""
    for mine, theirs in zip(one, other):
        for part, facing in zip(mine, theirs):
            if part != facing:
                return part < facing
    if len(one) > len(other):
        return one[len(other)][0] == -1
    return len(one) < len(other) and other[len(one)][0] == 1


def mark(hand, n, first, last, word="bold", thing=COUNT, **others):
    return deed(hand, n, ("mark", thing, first, last, word), **others)


def clear(hand, n, first, last, word="bold", thing=COUNT, **others):
    return deed(hand, n, ("clear", thing, first, last, word), **others)


def cut(hand, n, places, thing=COUNT, **others):
    return deed(hand, n, ("cut", thing, tuple(places)), **others)


def within_by_words(place, first, last):
    """The words of [22]."""
    return not before_by_words(place, first) and not before_by_words(last, place)
