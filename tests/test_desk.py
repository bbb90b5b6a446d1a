"""Points 37 to 41, and points 2 to 4 as far as desks go."""

import copy
import random
import unittest

from copymeet.desk import Desk, meet
from copymeet.errors import NoHand
from copymeet.fold import fold, told
from copymeet.force import in_force
from copymeet.places import places_of
from tests.helpers import (
    BIG, GREAT_AMOUNT, ROOT, DeskByWords, History, bound_by_words, chain, names, refused, settled_by_words, shuffled,
    step, sunk_by_words)

HANDS = ["ann", "bob", "cyd"]


def desks(*hands):
    """A desk for each of the hands, and for no others."""
    return [Desk(hand, list(hands)) for hand in hands]


def make(kind, holder=ROOT, spot="key"):
    return ("make", kind, holder, spot)


def did(desk, *acts):
    return [desk.do(act) for act in acts]


def state(desk):
    """All that a desk tells."""
    return copy.deepcopy((desk.seen(), desk.waiting(), desk.now(), desk.told(), desk.bound(), desk.base(), desk.held()))


class DeskCase(unittest.TestCase):

    def assert_refused(self, desk, act, error, **fields):
        before = state(desk)
        self.assertEqual(refused(desk.do, act), (error, fields), act)
        self.assertEqual(state(desk), before)


class TestHands(unittest.TestCase):

    def test_no_hand(self):
        for hand, hands in [("zoe", ["ann", "bob"]), ("ann", ["anna"]), ("anna", ["ann"]), ("a", ["b"])]:
            with self.assertRaises(NoHand):
                Desk(hand, hands)

    def test_a_desk_of_one_and_of_six_hands(self):
        six = ["fay", "eve", "dan", "cyd", "bob", "ann"]
        for hands in [["ann"], six]:
            for hand in hands:
                self.assertEqual(Desk(hand, hands).do(("settle",)), ((hand, 1), (), ("settle",)))

    def test_the_list_of_hands_may_be_changed_later(self):
        hands = ["ann", "bob"]
        desk = Desk("ann", hands)
        hands.remove("bob")
        did(desk, ("settle",))
        self.assertEqual(desk.sweep(), [])
        self.assertEqual(desk.bound(), 0)
        hands.append("zoe")
        self.assertEqual(hands, ["ann", "zoe"])

    def test_a_new_desk(self):
        desk = Desk("ann", HANDS)
        self.assertEqual(state(desk), ((), [], ([], []), ("map", []), 0, ([], []), []))
        self.assertEqual((desk.lacks(()), desk.sweep(), desk.hear([])), ([], [], []))


class TestHearing(unittest.TestCase):

    def setUp(self):
        """Deeds of bob and cyd: bob.1, bob.2, then cyd.1 who has seen both, then bob.3 who has seen cyd.1."""
        self.ann, bob, cyd = desks(*HANDS)
        self.deeds = did(bob, make("count"), ("add", ("bob", 1), 1))
        cyd.hear(self.deeds)
        self.deeds += did(cyd, ("add", ("bob", 1), 10))
        bob.hear(self.deeds)
        self.deeds += did(bob, ("add", ("bob", 1), 100))
        self.names = [("bob", 1), ("bob", 2), ("cyd", 1), ("bob", 3)]

    def test_all_at_once(self):
        self.assertEqual(self.ann.hear(self.deeds), self.names)
        self.assertEqual(self.ann.seen(), (("bob", 3), ("cyd", 1)))
        self.assertEqual(self.ann.waiting(), [])
        self.assertEqual(self.ann.told(), ("map", [("key", ("bob", 1), ("count", 111))]))

    def test_backwards(self):
        self.assertEqual(self.ann.hear(self.deeds[::-1]), self.names)

    def test_backwards_one_by_one(self):
        for turn, one in enumerate(self.deeds[:0:-1], start=1):
            self.assertEqual(self.ann.hear([one]), [])
            self.assertEqual(self.ann.seen(), ())
            self.assertEqual(self.ann.waiting(), sorted(self.names[-turn:]))
            self.assertEqual(self.ann.told(), ("map", []))
        self.assertEqual(self.ann.hear(self.deeds[:1]), self.names)
        self.assertEqual((self.ann.seen(), self.ann.waiting()), ((("bob", 3), ("cyd", 1)), []))

    def test_in_parts(self):
        self.assertEqual(self.ann.hear([self.deeds[3], self.deeds[0]]), [("bob", 1)])
        self.assertEqual((self.ann.seen(), self.ann.waiting()), ((("bob", 1),), [("bob", 3)]))
        self.assertEqual(self.ann.hear([self.deeds[2]]), [])
        self.assertEqual(self.ann.waiting(), [("bob", 3), ("cyd", 1)])
        self.assertEqual(names(self.ann.held()), [("bob", 1)])
        self.assertEqual(self.ann.lacks(()), self.deeds[:1])
        self.assertEqual(self.ann.hear([self.deeds[1]]), self.names[1:])

    def test_waiting_deeds_are_not_told(self):
        self.ann.hear([self.deeds[0], self.deeds[3]])
        self.assertEqual(self.ann.told(), ("map", [("key", ("bob", 1), ("count", 0))]))
        self.assertEqual(self.ann.do(("settle",)), (("ann", 1), (("bob", 1),), ("settle",)))

    def test_twice(self):
        self.assertEqual(self.ann.hear(self.deeds + self.deeds), self.names)
        before = state(self.ann)
        self.assertEqual(self.ann.hear(self.deeds[::-1] + self.deeds), [])
        self.assertEqual(state(self.ann), before)

    def test_while_one_of_the_name_waits(self):
        self.ann.hear(self.deeds[2:3])
        self.assertEqual(self.ann.hear(self.deeds[2:3] * 2), [])
        self.assertEqual(self.ann.waiting(), [("cyd", 1)])
        self.assertEqual(self.ann.hear(self.deeds[:2] + self.deeds[2:3]), self.names[:3])
        self.assertEqual(self.ann.waiting(), [])

    def test_what_the_desk_did_itself(self):
        own = did(self.ann, make("map"), ("settle",))
        before = state(self.ann)
        self.assertEqual(self.ann.hear(own), [])
        self.assertEqual(state(self.ann), before)

    def test_names_are_told_in_the_order(self):
        ann, bob, cyd, dan = desks("ann", "bob", "cyd", "dan")
        dans, cyds = did(dan, *[make("map")] * 3), did(cyd, *[make("map")] * 2)
        bobs = did(bob, make("map"))
        self.assertEqual(ann.hear(dans + cyds + bobs),
                         [("bob", 1), ("cyd", 1), ("dan", 1), ("cyd", 2), ("dan", 2), ("dan", 3)])

    def test_thrown_away_since(self):
        ann, bob = desks("ann", "bob")
        early = did(ann, make("count"), ("settle",))
        meet(ann, bob)
        did(bob, ("settle",))
        meet(ann, bob)
        self.assertEqual(ann.sweep(), names(early))
        before = state(ann)
        self.assertEqual(ann.hear(early), [])
        self.assertEqual(state(ann), before)


class TestDoing(DeskCase):

    def setUp(self):
        """A map with a count in it, a row, a choice, a bag and a text of three signs."""
        self.desk, self.bob = desks("ann", "bob")
        did(self.desk, make("map", spot="m"), make("count", ("ann", 1), "n"), make("row", spot="r"),
            make("choice", spot="c"), make("bag", spot="b"), make("text", spot="t"))
        self.map, self.count, self.row, self.choice, self.bag, self.text = [("ann", n) for n in range(1, 7)]
        one = self.desk.do(("write", self.text, (), 1, "xyz"))
        self.places = places_of(one)
        self.x, self.y, self.z = self.places
        self.none = (step(1, "zoe", 1),)

    def test_the_name_and_the_seen(self):
        self.assertEqual(self.desk.do(("settle",)), (("ann", 8), (("ann", 7),), ("settle",)))
        self.bob.hear(self.desk.held())
        act = ("add", self.count, GREAT_AMOUNT)
        self.assertEqual(self.bob.do(act), (("bob", 1), (("ann", 8),), act))
        self.assertEqual(self.bob.do(act), (("bob", 2), (("ann", 8), ("bob", 1)), act))
        self.assertEqual(self.bob.seen(), (("ann", 8), ("bob", 2)))

    def test_each_act_is_taken_in_at_once(self):
        pair = ((), 1)
        acts = [make("map"), make("row", self.row, pair), ("move", self.count, ROOT, "k"),
                ("move", self.count, self.row, pair), ("drop", self.count), ("add", self.count, 1),
                ("choose", self.choice, -GREAT_AMOUNT), ("put", self.bag, 2), ("take", self.bag, 3),
                ("write", self.text, self.y, -1, "a b"), ("cut", self.text, (self.y, self.x, self.y)),
                ("write", self.text, self.none, 1, "abcdefghijkl"), ("mark", self.text, self.z, self.z, "bold"),
                ("clear", self.text, self.z, self.z, "red"), ("back", 1, 1), ("back", 1, 20), ("settle",)]
        for turn, act in enumerate(acts, start=8):
            one = self.desk.do(act)
            self.assertEqual(one, (("ann", turn), (("ann", turn - 1),), act))
            self.assertEqual(self.desk.seen(), (("ann", turn),))
            self.assertEqual(self.desk.held()[-1], one)

    def test_no_thing_of_moves_and_drops(self):
        for thing in [("zoe", 1), ("ann", 7), ("ann", 8), ROOT]:
            self.assert_refused(self.desk, ("drop", thing), "NoThing", thing=thing)
            self.assert_refused(self.desk, ("move", thing, ROOT, "k"), "NoThing", thing=thing)
            self.assert_refused(self.desk, ("move", thing, ("zoe", 2), "k"), "NoThing", thing=thing)
            self.assert_refused(self.desk, ("move", thing, thing, "k"), "NoThing", thing=thing)

    def test_no_thing_of_the_other_acts(self):
        kinds = {self.count: ["add"], self.choice: ["choose"], self.bag: ["put", "take"],
                 self.text: ["write", "cut", "mark", "clear"]}
        for thing in [self.map, self.count, self.row, self.choice, self.bag, self.text, ROOT, ("zoe", 1), ("ann", 7)]:
            for act in [("add", thing, 1), ("choose", thing, 1), ("put", thing, 1), ("take", thing, 1),
                        ("write", thing, (), 1, "a"), ("cut", thing, (self.x,)), ("cut", thing, (self.none,)),
                        ("mark", thing, self.x, self.y, "b"), ("clear", thing, self.none, self.y, "b")]:
                if act[0] not in kinds.get(thing, []):
                    self.assert_refused(self.desk, act, "NoThing", thing=thing)

    def test_no_thing_by_the_holder(self):
        pair = ((), 1)
        for holder, spot in [(("zoe", 1), "k"), (("zoe", 1), pair), (self.row, "k"), (self.map, pair), (ROOT, pair),
                             (self.count, "k"), (self.text, pair), (("ann", 8), "k")]:
            self.assert_refused(self.desk, make("map", holder, spot), "NoThing", thing=holder)
            self.assert_refused(self.desk, ("move", self.bag, holder, spot), "NoThing", thing=holder)
        self.assert_refused(self.desk, ("move", self.map, self.map, pair), "NoThing", thing=self.map)

    def test_ring(self):
        did(self.desk, make("map", self.map, "in"), make("row", ("ann", 8), "in"))
        self.assert_refused(self.desk, ("move", self.map, self.map, "k"), "Ring", things=[self.map])
        self.assert_refused(self.desk, ("move", self.map, ("ann", 9), ((), 1)), "Ring",
                            things=[("ann", 9), ("ann", 8), self.map])
        self.desk.do(("drop", self.map))
        self.assert_refused(self.desk, ("move", self.map, ("ann", 8), "k"), "Ring", things=[("ann", 8), self.map])

    def test_no_place_of_a_cut(self):
        other = self.z + (step(1, "zoe", 1),)
        for places, place in [((self.none,), self.none), ((self.x, other, self.none), other),
                              ((self.none, other), self.none), ((self.y, self.y, self.x, other), other)]:
            self.assert_refused(self.desk, ("cut", self.text, places), "NoPlace", place=place)
        self.desk.do(("cut", self.text, (self.y,)))
        self.assert_refused(self.desk, ("cut", self.text, (self.x, self.y)), "NoPlace", place=self.y)

    def test_no_place_of_marks_and_clears(self):
        other = self.z + (step(1, "zoe", 1),)
        for word in ["mark", "clear"]:
            for first, last, place in [(self.none, other, self.none), (self.x, other, other), (other, self.x, other),
                                       (self.y, self.x, self.y), (self.z, self.x, self.z),
                                       (self.none, self.x, self.none), (self.x, self.none, self.none)]:
                self.assert_refused(self.desk, (word, self.text, first, last, "bold"), "NoPlace", place=place)
            self.desk.do((word, self.text, self.x, self.x, "bold"))
            self.desk.do((word, self.text, self.x, self.z, "bold"))

    def test_no_deed(self):
        for first, last in [(0, 1), (0, 0), (-1, 1), (2, 1), (1, 8), (8, 8), (7, 8), (BIG, BIG), (1, BIG)]:
            self.assert_refused(self.desk, ("back", first, last), "NoDeed")
        self.desk.do(("back", 7, 7))
        self.desk.do(("back", 1, 8))
        self.assert_refused(Desk("ann", HANDS), ("back", 1, 1), "NoDeed")

    def test_others_deeds_are_not_one_s_own(self):
        self.bob.hear(self.desk.held())
        self.assert_refused(self.bob, ("back", 1, 1), "NoDeed")
        self.bob.do(("settle",))
        self.assert_refused(self.bob, ("back", 1, 2), "NoDeed")

    def test_settled(self):
        did(self.desk, ("settle",), make("map"), make("map"))
        self.assert_refused(self.desk, ("back", 8, 8), "Settled", number=8)
        self.assert_refused(self.desk, ("back", 8, 9), "Settled", number=8)
        self.assert_refused(self.desk, ("back", 1, 1), "Settled", number=8)
        self.assert_refused(self.desk, ("back", 1, 10), "Settled", number=8)
        # What is no deed comes first.
        self.assert_refused(self.desk, ("back", 1, 11), "NoDeed")
        self.assert_refused(self.desk, ("back", 8, 7), "NoDeed")
        did(self.desk, ("back", 9, 9), ("settle",))
        self.assert_refused(self.desk, ("back", 10, 11), "Settled", number=12)

    def test_a_settle_of_another_hand_does_not_matter(self):
        self.bob.do(("settle",))
        meet(self.bob, self.desk)
        self.desk.do(("back", 1, 1))

    def test_as_now_tells(self):
        self.desk.do(("back", 2, 2))
        self.assert_refused(self.desk, ("add", self.count, 1), "NoThing", thing=self.count)
        self.desk.do(("back", 8, 8))
        self.desk.do(("add", self.count, 1))
        self.desk.do(("back", 7, 7))
        self.assert_refused(self.desk, ("cut", self.text, (self.x,)), "NoPlace", place=self.x)

    def test_things_in_the_bin(self):
        did(self.desk, ("drop", self.map), ("drop", self.text), ("drop", self.row))
        did(self.desk, ("add", self.count, 4), make("bag", self.map, "new"), ("cut", self.text, (self.x,)),
            ("drop", self.map), ("move", self.bag, self.row, ((), 1)), ("move", self.map, self.row, ((), 1)),
            ("move", self.count, ROOT, "n"))
        self.assertEqual(self.desk.told(), ("map", [("c", self.choice, ("choice", [])),
                                                    ("n", self.count, ("count", 4))]))

    def test_where_something_is_put_is_not_looked_at(self):
        deep = chain("zoe", 50)
        did(self.desk, ("write", self.text, deep, -1, "a"), make("map", self.row, (deep, 1)),
            ("move", self.bag, self.row, (self.none, -1)))

    def test_the_deed_s_parts_are_as_handed_in(self):
        act = ("cut", self.text, (self.x, self.y))
        self.assertEqual(self.desk.do(act)[2], act)


class TestSweeping(unittest.TestCase):

    def test_ahead_of_any_settle(self):
        ann, bob = desks("ann", "bob")
        did(ann, make("count"), ("add", ("ann", 1), 5))
        meet(ann, bob)
        did(bob, ("settle",))
        meet(ann, bob)
        before = state(ann)
        self.assertEqual(ann.sweep(), [])
        self.assertEqual(state(ann), before)
        self.assertEqual((ann.bound(), ann.base()), (0, ([], [])))

    def test_the_bound_and_the_base_of_the_last_sweep(self):
        ann, bob = desks("ann", "bob")
        did(ann, make("count"), ("add", ("ann", 1), 5), ("settle",))
        meet(ann, bob)
        did(bob, ("add", ("ann", 1), 10), ("settle",), ("add", ("ann", 1), 100))
        meet(ann, bob)
        # Not ahead of the sweep.
        self.assertEqual((ann.bound(), ann.base()), (0, ([], [])))
        self.assertEqual(ann.sweep(), [("ann", 1), ("ann", 2), ("ann", 3)])
        self.assertEqual(ann.bound(), 3)
        self.assertEqual(ann.base(), ([(("ann", 1), "count", ROOT, "key", 5)], []))
        self.assertEqual(names(ann.held()), [("bob", 1), ("bob", 2), ("bob", 3)])
        self.assertEqual(ann.now(), ([(("ann", 1), "count", ROOT, "key", 115)], []))
        # One right behind another.
        self.assertEqual(ann.sweep(), [])
        did(ann, ("settle",))
        self.assertEqual(ann.bound(), 3)
        # Now bob.2 is the least of the last settles; but bob is not known to have seen ann.4.
        self.assertEqual(ann.sweep(), [("bob", 1), ("bob", 2)])
        self.assertEqual((ann.bound(), names(ann.held())), (5, [("bob", 3), ("ann", 4)]))
        self.assertEqual(ann.base(), ([(("ann", 1), "count", ROOT, "key", 15)], []))
        self.assertEqual(ann.told(), ("map", [("key", ("ann", 1), ("count", 115))]))

    def test_settled_but_not_sunk(self):
        ann, bob = desks("ann", "bob")
        did(bob, make("count"), ("add", ("bob", 1), 5), ("settle",))
        did(ann, make("bag"), ("put", ("ann", 1), 6), ("settle",))
        ann.hear(bob.held())
        base = ([(("ann", 1), "bag", ROOT, "key", [(("ann", 2), 6)]), (("bob", 1), "count", ROOT, "key", 5)], [])
        # However often: what is in the base is not folded into it again.
        for turn in range(3):
            self.assertEqual(ann.sweep(), [])
            self.assertEqual((ann.bound(), ann.base(), ann.now()), (3, base, base))
            self.assertEqual(len(ann.held()), 6)
        # Now ann is known to have seen what bob did; what ann did bob isn't.
        did(ann, ("put", ("ann", 1), 7))
        self.assertEqual(ann.sweep(), [("bob", 1), ("bob", 2), ("bob", 3)])
        self.assertEqual(ann.sweep(), [])
        self.assertEqual((ann.bound(), ann.base()), (3, base))
        self.assertEqual(ann.told(), ("map", [("key", ("ann", 1), ("bag", [6, 7])), ("key", ("bob", 1), ("count", 5))]))

    def test_settled_but_not_sunk_about_a_thing_whose_make_is_thrown_away(self):
        ann, bob = desks("ann", "bob")
        did(bob, make("count"))
        meet(ann, bob)
        did(ann, ("add", ("bob", 1), 5), ("settle",))
        ann.hear(did(bob, ("settle",), ("settle",)))
        for gone in [[("bob", 1)], [], []]:
            self.assertEqual(ann.sweep(), gone)
            self.assertEqual((ann.bound(), ann.base()), (3, ([(("bob", 1), "count", ROOT, "key", 5)], [])))
            self.assertEqual(names(ann.held()), [("ann", 1), ("bob", 2), ("ann", 2), ("bob", 3)])
            self.assertEqual(ann.now(), ann.base())

    def test_a_deed_right_at_the_bound(self):
        ann, bob = desks("ann", "bob")
        did(bob, make("count"), ("add", ("bob", 1), 5), ("add", ("bob", 1), 10), ("settle",))
        did(ann, ("settle",), ("settle",), ("settle",))
        ann.hear(bob.held())
        for turn in range(2):
            self.assertEqual(ann.sweep(), [])
            self.assertEqual((ann.bound(), len(ann.held())), (3, 7))
            self.assertEqual(ann.base(), ([(("bob", 1), "count", ROOT, "key", 15)], []))
            self.assertEqual(ann.now(), ann.base())
        ann.hear(did(bob, ("add", ("bob", 1), 100)))
        self.assertEqual(ann.told(), ("map", [("key", ("bob", 1), ("count", 115))]))

    def test_backs_behind_a_sweep(self):
        ann = Desk("ann", ["ann"])
        did(ann, make("count"), ("add", ("ann", 1), 1), ("back", 2, 2), ("settle",), ("add", ("ann", 1), 10))
        self.assertEqual(ann.sweep(), [("ann", 1), ("ann", 2), ("ann", 3), ("ann", 4)])
        self.assertEqual(ann.base(), ([(("ann", 1), "count", ROOT, "key", 0)], []))
        self.assertEqual(refused(ann.do, ("back", 2, 5)), ("Settled", {"number": 4}))
        self.assertEqual(refused(ann.do, ("back", 5, 6)), ("NoDeed", {}))
        self.assertEqual(ann.do(("back", 5, 5)), (("ann", 6), (("ann", 5),), ("back", 5, 5)))
        self.assertEqual(ann.told(), ("map", [("key", ("ann", 1), ("count", 0))]))
        did(ann, ("settle",))
        self.assertEqual(ann.sweep(), [("ann", 5), ("ann", 6), ("ann", 7)])
        self.assertEqual((ann.held(), ann.bound(), ann.seen()), ([], 7, (("ann", 7),)))
        self.assertEqual(refused(ann.do, ("back", 7, 7)), ("Settled", {"number": 7}))
        self.assertEqual(ann.do(("add", ("ann", 1), 3))[0], ("ann", 8))

    def test_a_hand_s_last_deed_that_was_thrown_away_counts_on(self):
        ann, bob = desks("ann", "bob")
        did(ann, make("count"), ("settle",))
        meet(ann, bob)
        did(bob, ("add", ("ann", 1), 1), ("settle",))
        meet(ann, bob)
        self.assertEqual(bob.sweep(), [("ann", 1), ("ann", 2)])
        did(bob, ("add", ("ann", 1), 2), ("settle",))
        self.assertEqual(bob.sweep(), [])
        self.assertEqual(bob.bound(), 2)

    def test_lost_moves_in_the_base(self):
        ann, bob = desks("ann", "bob")
        did(ann, make("map", spot="a"), make("map", spot="b"))
        meet(ann, bob)
        did(ann, ("move", ("ann", 1), ("ann", 2), "in"), ("settle",))
        did(bob, ("move", ("ann", 2), ("ann", 1), "in"), ("settle",))
        meet(ann, bob)
        for desk in [ann, bob]:
            desk.sweep()
            self.assertEqual(desk.base()[1], [("bob", 1)])
            self.assertEqual(desk.now()[1], [("bob", 1)])


class TestLacks(unittest.TestCase):

    def setUp(self):
        self.ann, self.bob = desks("ann", "bob")
        did(self.ann, make("count"), ("add", ("ann", 1), 1))
        meet(self.ann, self.bob)
        did(self.bob, ("add", ("ann", 1), 2), ("add", ("ann", 1), 3))
        meet(self.ann, self.bob)
        did(self.ann, ("add", ("ann", 1), 4))

    def test_seens_of_many_kinds(self):
        for seen, expected in [
                ((), [("ann", 1), ("ann", 2), ("bob", 1), ("bob", 2), ("ann", 3)]),
                ((("ann", 1),), [("ann", 2), ("bob", 1), ("bob", 2), ("ann", 3)]),
                ((("ann", 2), ("bob", 2)), [("ann", 3)]),
                ((("bob", 1),), [("ann", 1), ("ann", 2), ("bob", 2), ("ann", 3)]),
                ((("ann", 3), ("bob", 2)), []), ((("ann", BIG), ("bob", BIG), ("zoe", 3)), []),
                ((("an", 9), ("anna", 9)), [("ann", 1), ("ann", 2), ("bob", 1), ("bob", 2), ("ann", 3)])]:
            self.assertEqual(names(self.ann.lacks(seen)), expected)
        self.assertEqual(self.ann.lacks(()), self.ann.held())

    def test_swept(self):
        meet(self.ann, self.bob)
        for desk in [self.ann, self.bob, self.ann]:
            did(desk, ("settle",))
            meet(self.ann, self.bob)
        gone = self.ann.sweep()
        self.assertEqual(gone, [("ann", 1), ("ann", 2), ("bob", 1), ("bob", 2), ("ann", 3), ("ann", 4), ("bob", 3)])
        for seen, deed in [((), ("ann", 1)), ((("ann", 2),), ("ann", 3)), ((("ann", 3), ("bob", 9)), ("ann", 4)),
                           ((("bob", 9),), ("ann", 1)), ((("ann", 4),), ("bob", 1)),
                           ((("ann", 9), ("bob", 2)), ("bob", 3)),
                           ((("an", 9), ("anna", 9)), ("ann", 1))]:
            self.assertEqual(refused(self.ann.lacks, seen), ("Swept", {"deed": deed}), seen)
        self.assertEqual(names(self.ann.lacks((("ann", 4), ("bob", 3)))), [("ann", 5)])
        self.assertEqual(self.ann.lacks((("ann", 5), ("bob", 3))), [])
        # The other one has thrown nothing away.
        self.assertEqual(len(self.bob.lacks(())), 8)

    def test_meetings(self):
        sent = meet(self.ann, self.bob)
        self.assertEqual((names(sent[0]), sent[1]), ([("ann", 3)], []))
        self.assertEqual(meet(self.ann, self.bob), ([], []))
        did(self.bob, ("settle",))
        did(self.ann, ("settle",), ("settle",))
        sent = meet(self.bob, self.ann)
        self.assertEqual((names(sent[0]), names(sent[1])), ([("bob", 3)], [("ann", 4), ("ann", 5)]))
        self.assertEqual(self.ann.seen(), self.bob.seen())
        self.assertEqual(self.ann.told(), self.bob.told())

    def test_a_desk_that_meets_itself(self):
        before = state(self.ann)
        self.assertEqual(meet(self.ann, self.ann), ([], []))
        self.assertEqual(state(self.ann), before)

    def test_what_waited_is_sent_again_and_taken_in(self):
        ann, bob = desks("ann", "bob")
        made = did(ann, make("count"), ("add", ("ann", 1), 1))
        bob.hear(made[1:])
        self.assertEqual(meet(ann, bob), (made, []))
        self.assertEqual((bob.waiting(), bob.seen()), ([], (("ann", 2),)))


class Office:
    """For each hand a desk that sweeps, one that never does, and one by the document's words: all hear the same."""

    def __init__(self, case, seed, hands):
        self.case, self.hands = case, hands
        self.history = History(seed, hands, settling=0.09 if seed % 2 else 0.04)
        self.chance = random.Random(seed + 1000)
        self.sweeping = {hand: Desk(hand, hands) for hand in hands}
        self.plain = {hand: Desk(hand, hands) for hand in hands}
        self.words = {hand: DeskByWords(hand, hands) for hand in hands}
        self.met = {"refused": [], "swept": 0, "waited": 0, "sent": 0}

    def three(self, hand):
        return [self.sweeping[hand], self.plain[hand], self.words[hand]]

    def do(self, hand):
        act = self.history.some_act(hand)
        sweeping, plain, words = self.three(hand)
        expected = words.refusal(act)
        if expected:
            self.met["refused"].append(expected[0])
            for desk in [sweeping, plain]:
                self.case.assertEqual(refused(desk.do, act), expected)
        else:
            deed = words.do(act)
            self.case.assertEqual([sweeping.do(act), plain.do(act)], [deed, deed])
            self.history.deeds[deed[0]] = deed
            self.history.seen[hand] = dict(words.seen())

    def pass_on(self, hand, other):
        """Let a hand hear some of what another one has taken in, in any order and some of it twice."""
        known = list(self.words[other].taken.values())
        fresh = [deed for deed in known if deed[0] not in self.words[hand].taken]
        part = self.chance.sample(fresh, self.chance.randint(0, min(4, len(fresh))))
        part = shuffled(self.chance.random(), part + self.chance.sample(known, min(3, len(known))))
        expected = self.words[hand].hear(part)
        self.case.assertEqual(self.sweeping[hand].hear(part), expected)
        self.case.assertEqual(self.plain[hand].hear(part), expected)
        self.history.seen[hand] = dict(self.words[hand].seen())
        self.met["waited"] += len(self.words[hand].early)

    def meet(self, one, other):
        words = [self.words[one], self.words[other]]
        had = set(words[0].taken) | set(words[1].taken)
        sent = tuple([deed for deed in mine.deeds() if deed[0] not in theirs.taken]
                     for mine, theirs in [words, words[::-1]])
        for all_desks in [self.sweeping, self.plain]:
            self.case.assertEqual(meet(all_desks[one], all_desks[other]), sent)
        words[1].hear(sent[0])
        words[0].hear(sent[1])
        self.met["sent"] += len(sent[0] + sent[1])
        for hand in [one, other]:
            # What waited may be taken in on top of it.
            self.case.assertTrue(had <= set(self.words[hand].taken))
            self.history.seen[hand] = dict(self.words[hand].seen())

    def sweep(self, hand):
        desk, words = self.sweeping[hand], self.words[hand]
        deeds = words.deeds()
        gone = [name for name in sunk_by_words(self.hands, deeds) if name not in words.thrown]
        self.case.assertEqual(desk.sweep(), gone)
        words.thrown.update(dict.fromkeys(gone, True))
        self.case.assertEqual(desk.bound(), bound_by_words(self.hands, deeds))
        self.case.assertEqual(desk.base(), fold(([], []), settled_by_words(self.hands, deeds)))
        self.met["swept"] += len(gone)

    def check(self, hand):
        sweeping, plain, words = self.three(hand)
        expected = words.fold()
        for desk in [sweeping, plain]:
            self.case.assertEqual(desk.seen(), words.seen())
            self.case.assertEqual(desk.waiting(), sorted(words.early))
            self.case.assertEqual(desk.now(), expected.base())
            self.case.assertEqual(desk.told(), expected.told())
        self.case.assertEqual(sweeping.held(), [one for one in words.deeds() if one[0] not in words.thrown])
        self.case.assertEqual(plain.held(), words.deeds())
        self.check_lacks(hand)

    def check_lacks(self, hand):
        sweeping, plain, words = self.three(hand)
        for other in self.hands:
            seen = self.words[other].seen()
            self.case.assertEqual(sweeping.lacks(seen), words.lacks(seen))
            self.case.assertEqual(sweeping.lacks(seen), plain.lacks(seen))
        pairs = [(other, self.chance.randint(0, 8)) for other in sorted(self.hands)]
        seen = tuple(pair for pair in pairs if pair[1])
        expected = words.lacks(seen)
        if type(expected) is tuple:
            self.case.assertEqual(refused(sweeping.lacks, seen), expected)
        else:
            self.case.assertEqual(sweeping.lacks(seen), expected)

    def go_on(self, count):
        for turn in range(count):
            hand, other = self.chance.choice(self.hands), self.chance.choice(self.hands)
            roll = self.chance.random()
            if roll < 0.6:
                self.do(hand)
            elif roll < 0.84:
                self.pass_on(hand, other)
            elif roll < 0.9:
                self.meet(hand, other)
            else:
                self.sweep(hand)
            self.check(hand)

    def settle_all(self):
        """A round of meetings, settles, meetings and sweeps."""
        for act in [None, ("settle",), ("settle",), None]:
            for hand in self.hands:
                if act is not None:
                    for desk in self.three(hand):
                        deed = desk.do(act)
                    self.history.deeds[deed[0]] = deed
                    self.history.seen[hand] = dict(self.words[hand].seen())
                for other in self.hands:
                    self.meet(hand, other)
        for hand in self.hands:
            self.sweep(hand)
            self.check(hand)


class TestOffices(unittest.TestCase):

    def test_desks_that_sweep_and_desks_that_do_not(self):
        met = {"refused": [], "swept": 0, "waited": 0, "sent": 0}
        for seed in range(30):
            office = Office(self, seed, ["ann", "bob", "cyd"][:1 + seed % 3])
            for turn in range(2):
                office.go_on(35)
                office.settle_all()
            for key, value in office.met.items():
                met[key] += value
        self.assertEqual(set(met["refused"]), {"NoThing", "Ring", "NoPlace", "NoDeed", "Settled"})
        for key in ["swept", "waited", "sent"]:
            self.assertGreater(met[key], 100, key)

    def test_desks_that_have_taken_in_the_same_tell_the_same(self):
        for seed in range(15):
            office = Office(self, seed, HANDS)
            office.go_on(40)
            office.settle_all()
            for desk in list(office.sweeping.values()) + list(office.plain.values()):
                self.assertEqual(desk.now(), office.plain["ann"].now())
                self.assertEqual(desk.told(), office.plain["ann"].told())

    def test_now_upon_the_base(self):
        for seed in range(15):
            office = Office(self, seed, HANDS)
            office.go_on(30)
            office.settle_all()
            office.go_on(20)
            for desk in office.sweeping.values():
                above = [one for one in in_force(desk.held()) if 1 + sum(n for hand, n in one[1]) > desk.bound()]
                self.assertEqual(fold(desk.base(), above), desk.now())
                self.assertEqual(told(desk.now()), desk.told())

    def test_the_same_deeds_in_unlike_orders_parts_and_doubles(self):
        for seed in range(20):
            office = Office(self, seed, HANDS)
            office.go_on(40)
            deeds = list(office.history.deeds.values())
            chance = random.Random(seed)
            answers = []
            for turn in range(4):
                desk = Desk("dan", HANDS + ["dan"])
                left = shuffled(chance.random(), deeds)
                taken = []
                while left:
                    size = chance.randint(1, len(left))
                    taken += desk.hear(left[:size])
                    left = left[size:]
                    if turn % 2:
                        desk.sweep()
                self.assertEqual(sorted(taken), sorted(names(deeds)))
                answers.append((desk.seen(), desk.waiting(), desk.now(), desk.told(), desk.held()))
            self.assertEqual(answers[1:], answers[:1] * 3)


class TestBounds(unittest.TestCase):

    def test_two_hundred_deeds_and_a_thousand_signs(self):
        ann, bob = desks("ann", "bob")
        ann.do(make("text"))
        under = ()
        for turn in range(83):
            under = places_of(ann.do(("write", ("ann", 1), under, 1, "abcdefghijkl")))[-1]
        self.assertEqual(len(under), 996)
        meet(ann, bob)
        for turn in range(100):
            bob.do(("mark", ("ann", 1), under[:1 + turn], under[:890 + turn], "bold"))
        meet(ann, bob)
        ann.do(("settle",))
        meet(ann, bob)
        bob.do(("settle",))
        meet(ann, bob)
        self.assertEqual(len(ann.sweep()), 185)
        self.assertEqual(ann.now(), bob.now())
        self.assertEqual(len(ann.told()[1][0][2][1]), 996)

    def test_seventy_deep(self):
        ann = Desk("ann", ["ann"])
        did(ann, make("map"), *[make("map", ("ann", n), "in") for n in range(1, 70)])
        self.assertEqual(len(refused(ann.do, ("move", ("ann", 1), ("ann", 70), "x"))[1]["things"]), 70)
        what, depth = ann.told(), 0
        while what[1]:
            what, depth = what[1][0][2], depth + 1
        self.assertEqual(depth, 70)


class TestTheAskersOwn(DeskCase):

    def setUp(self):
        self.ann, self.bob = desks("ann", "bob")
        text = did(self.ann, make("text"), make("map", spot="m"), make("bag", spot="b"))[0][0]
        x, y = places_of(did(self.ann, ("write", text, (), 1, "xy"))[0])
        did(self.ann, ("mark", text, x, y, "bold"), ("clear", text, x, x, "bold"), ("put", ("ann", 3), 4))
        did(self.ann, ("settle",))
        meet(self.ann, self.bob)
        did(self.bob, ("put", ("ann", 3), 5), ("settle",))
        meet(self.ann, self.bob)
        self.ann.sweep()
        self.bob.hear([(("ann", 11), (("ann", 10),), ("settle",))])

    def empty_all(self, value):
        if isinstance(value, (list, tuple)):
            for part in value:
                self.empty_all(part)
        if isinstance(value, list):
            value.clear()

    def test_what_is_told_may_be_changed(self):
        for desk in [self.ann, self.bob]:
            before = state(desk)
            seen = (("ann", 8),)
            asked = [desk.now, desk.told, desk.base, desk.held, desk.waiting, lambda: desk.lacks(seen)]
            kept = copy.deepcopy([asking() for asking in asked])
            for asking in asked:
                self.empty_all(asking())
            self.assertEqual([asking() for asking in asked], kept)
            self.assertEqual(state(desk), before)

    def test_what_sweep_hear_and_meet_tell_may_be_changed(self):
        ann, bob = desks("ann", "bob")
        made = did(ann, make("count"), ("settle",))
        bob.hear(made).clear()
        sent = meet(bob, ann)
        self.empty_all(sent)
        bob.do(("settle",))
        self.empty_all(meet(bob, ann))
        bob.sweep().clear()
        self.assertEqual((names(bob.held()), bob.seen()), ([("bob", 1)], (("ann", 2), ("bob", 1))))
        self.assertEqual(ann.seen(), bob.seen())

    def test_what_was_told_stays(self):
        told = [self.ann.now(), self.ann.told(), self.ann.base(), self.ann.held(), self.bob.waiting()]
        kept = copy.deepcopy(told)
        did(self.ann, ("put", ("ann", 3), 9), ("drop", ("ann", 2)), ("back", 9, 9), ("settle",))
        meet(self.ann, self.bob)
        did(self.bob, ("settle",))
        meet(self.ann, self.bob)
        self.ann.sweep()
        self.assertEqual(told, kept)

    def test_lists_handed_in_stay_and_may_be_changed(self):
        ann, bob = desks("ann", "bob")
        made = did(ann, make("count"), ("add", ("ann", 1), 4), ("settle",))
        handed = [made[2], made[0], made[0]]
        bob.hear(handed)
        self.assertEqual(handed, [made[2], made[0], made[0]])
        handed.clear()
        self.assertEqual((names(bob.held()), bob.waiting()), ([("ann", 1)], [("ann", 3)]))
        bob.hear(made)
        self.assertEqual(bob.held(), made)

    def test_the_ring_of_a_refusal(self):
        before = state(self.ann)
        ring = refused(self.ann.do, ("move", ("ann", 2), ("ann", 2), "x"))[1]["things"]
        ring.clear()
        self.assert_refused(self.ann, ("move", ("ann", 2), ("ann", 2), "x"), "Ring", things=[("ann", 2)])
        self.assertEqual(state(self.ann), before)

    def test_kinds_of_what_is_told(self):
        desk = self.ann
        for value, kind in [(desk.seen(), tuple), (desk.waiting(), list), (desk.lacks(desk.seen()), list),
                            (desk.now(), tuple), (desk.told(), tuple), (desk.sweep(), list), (desk.bound(), int),
                            (desk.base(), tuple), (desk.held(), list), (desk.hear([]), list),
                            (meet(desk, self.bob), tuple), (desk.do(("settle",)), tuple)]:
            self.assertIs(type(value), kind)


if __name__ == "__main__":
    unittest.main()
