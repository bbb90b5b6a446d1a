"""Points 1 to 4 over the whole program, and the names and arguments of its interface."""

import importlib
import inspect
import random
import unittest

from copymeet.deeds import in_order
from copymeet.desk import Desk, meet
from copymeet.fold import reading
from copymeet.room import Room
from tests.helpers import ROOT, History, names, refused, shuffled

HANDS = ["ann", "bob", "cyd"]

# The interface of the document: functions, and classes with their methods, by modules.
FUNCTIONS = {
    "deeds": {"covers": "seen name", "joined": "one other", "widened": "seen name", "stamp": "deed",
              "ahead": "one other", "in_order": "deeds"},
    "force": {"taken_by": "deeds", "in_force": "deeds"},
    "places": {"before": "one other", "gap": "left right", "place_of": "spot name", "places_of": "deed"},
    "marks": {"within": "place first last"},
    "kinds": {"leaf_of": "kind"},
    "fold": {"empty": "", "fold": "base deeds", "told": "base", "reading": "deeds"},
    "fates": {"fates": "deeds"},
    "sweep": {"known": "hand deeds", "bound": "hands deeds", "sunk": "hands deeds", "settled": "hands deeds"},
    "desk": {"meet": "one other"},
    "wire": {"shown": "deed", "read": "text"},
}
LEAF = {"hear": "deed", "told": "", "content": "", "fill": "content"}
CLASSES = {
    ("leaves", "Leaf", ""): LEAF,
    ("leaves", "Count", ""): LEAF,
    ("leaves", "Choice", ""): LEAF,
    ("leaves", "Bag", ""): LEAF,
    ("texts", "Text", ""): LEAF,
    ("signs", "Signs", ""): {"write": "deed", "cut": "places", "rows": "", "fill": "rows"},
    ("marks", "Marks", ""): {"mark": "deed", "clear": "deed", "words_at": "place", "rows": "", "fill": "rows"},
    ("tree", "Tree", ""): {"hear": "deed", "kind_of": "thing", "held": "thing", "ring": "thing holder",
                           "within": "thing", "lost": "", "rows": "", "fill": "rows lost"},
    ("desk", "Desk", "hand hands"): {"do": "act", "hear": "deeds", "seen": "", "waiting": "", "lacks": "seen",
                                     "now": "", "told": "", "sweep": "", "bound": "", "base": "", "held": ""},
    ("room", "Room", "hands"): {"say": "row"},
}


def arguments(function):
    return list(inspect.signature(function).parameters)


def worked(seed, count=60, sweeping=False):
    """Desks that worked apart and met for a while."""
    history, chance = History(seed, HANDS), random.Random(seed)
    desks = {hand: Desk(hand, HANDS) for hand in HANDS}
    for turn in range(count):
        hand = chance.choice(HANDS)
        if chance.random() < 0.25:
            meet(desks[hand], desks[chance.choice(HANDS)])
        elif refused(desks[hand].do, history.some_act(hand)) is None:
            one = desks[hand].held()[-1]
            history.deeds[one[0]] = one
        if sweeping:
            desks[hand].sweep()
        for other in HANDS:
            history.seen[other] = dict(desks[other].seen())
    return desks, list(history.deeds.values())


class TestInterface(unittest.TestCase):

    def test_functions(self):
        for module, functions in FUNCTIONS.items():
            for name, given in functions.items():
                function = getattr(importlib.import_module(f"copymeet.{module}"), name)
                self.assertEqual(arguments(function), given.split(), name)

    def test_classes(self):
        for (module, name, given), methods in CLASSES.items():
            cls = getattr(importlib.import_module(f"copymeet.{module}"), name)
            self.assertEqual(arguments(cls), given.split(), name)
            for method, more in methods.items():
                self.assertEqual(arguments(getattr(cls, method))[1:], more.split(), (name, method))

    def test_words_is_a_module(self):
        importlib.import_module("copymeet.words")


class TestThePromise(unittest.TestCase):

    def test_what_a_desk_tells_is_the_reading_of_what_it_took_in(self):
        for seed in range(40):
            desks, deeds = worked(seed)
            for desk in desks.values():
                self.assertEqual(desk.told(), reading(desk.held()))

    def test_unlike_orders_parts_doubles_and_sweeps(self):
        for seed in range(30):
            desks, deeds = worked(seed, sweeping=seed % 2 == 1)
            chance = random.Random(seed)
            expected = reading(deeds)
            for hand in HANDS:
                desk, left = desks[hand], shuffled(chance.random(), deeds)
                while left:
                    size = chance.randint(1, len(left))
                    desk.hear(left[:size])
                    left = left[size:]
                    if chance.random() < 0.3:
                        desk.sweep()
                self.assertEqual((desk.told(), desk.waiting()), (expected, []))

    def test_meetings_in_any_order_bring_all_to_all(self):
        for seed in range(20):
            desks, deeds = worked(seed)
            chance = random.Random(seed)
            pairs = [(one, other) for one in HANDS for other in HANDS if one != other] * 2
            chance.shuffle(pairs)
            for one, other in pairs:
                had = names(desks[one].held()), names(desks[other].held())
                sent = meet(desks[one], desks[other])
                self.assertEqual(names(sent[0]), [name for name in had[0] if name not in had[1]])
                self.assertEqual(names(sent[1]), [name for name in had[1] if name not in had[0]])
                self.assertEqual(desks[one].held(), desks[other].held())
            for hand in HANDS:
                self.assertEqual(desks[hand].held(), in_order(deeds))
                self.assertEqual(desks[hand].told(), reading(deeds))

    def test_a_last_deed_that_is_a_back(self):
        tried = 0
        for seed in range(80):
            desks, deeds = worked(seed, sweeping=seed % 2 == 1)
            desk = desks["ann"]
            desk.hear(deeds)
            own = [one for one in deeds if one[0][0] == "ann"]
            chance = random.Random(seed)
            if not own:
                continue
            first = chance.randint(1, len(own))
            last = chance.randint(first, len(own))
            if refused(desk.do, ("back", first, last)) is None:
                rest = [one for one in deeds if one[0][0] != "ann" or not first <= one[0][1] <= last]
                self.assertEqual(desk.told(), reading(rest))
                tried += 1
        self.assertGreater(tried, 25)

    def test_every_thing_made_hangs_from_the_root_or_from_the_bin(self):
        binned = 0
        for seed in range(40):
            desks, deeds = worked(seed, sweeping=seed % 2 == 1)
            for desk in desks.values():
                holders = {row[0]: row[2] for row in desk.now()[0]}
                for thing in holders:
                    way = [thing]
                    while way[-1] not in (ROOT, None):
                        way.append(holders[way[-1]])
                        self.assertLessEqual(len(way), len(holders) + 1)
                    binned += way[-1] is None
        self.assertGreater(binned, 20)

    def test_a_room_and_its_desks_tell_the_same_at_every_turn(self):
        rows = ["ann make text .0 t", "ann write ann.1 0 hello", "ann meet bob", "bob write ann.1 5  you",
                "ann cut ann.1 0 0", "ann write ann.1 0 J", "bob mark ann.1 0 4 bold", "bob meet cyd", "cyd settle",
                "ann meet cyd", "ann settle", "bob meet ann", "bob settle", "bob meet cyd", "cyd meet ann"]
        plain, sweeping = Room(HANDS), Room(HANDS)
        for row in rows:
            self.assertEqual(sweeping.say(row), plain.say(row))
            for hand in HANDS:
                sweeping.say(f"{hand} sweep")
                self.assertEqual(sweeping.say(f"{hand} tell"), plain.say(f"{hand} tell"))
        for room in [plain, sweeping]:
            self.assertEqual(refused(room.say, "ann back 4 4"), ("Settled", {"number": 5}))
            for hand in HANDS:
                self.assertEqual(room.say(f"{hand} tell"), "{t ann.1 '9 Jello you bold:0,1,2,3,4}")
        self.assertNotEqual(sweeping.say("ann held"), plain.say("ann held"))


if __name__ == "__main__":
    unittest.main()
