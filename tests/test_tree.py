"""Points 26 to 28, and points 2 and 3 as far as trees go."""

import copy
import random
import unittest

from copymeet.deeds import ROOT
from copymeet.tree import Tree
from tests.helpers import TreeByWords, chain, deed, step

KINDS = ["map", "row", "count", "choice", "bag", "text"]
MAP, ROW, COUNT = ("ann", 1), ("ann", 2), ("ann", 3)


def make(name, kind, holder=ROOT, spot="key", **others):
    return deed(name[0], name[1], ("make", kind, holder, spot), **others)


def move(name, thing, holder=ROOT, spot="key", **others):
    return deed(name[0], name[1], ("move", thing, holder, spot), **others)


def drop(name, thing, **others):
    return deed(name[0], name[1], ("drop", thing), **others)


def heard(deeds):
    tree = Tree()
    for one in deeds:
        tree.hear(one)
    return tree


def small_tree():
    """A map, a row and a count in ROOT."""
    return heard([make(MAP, "map", spot="m"), make(ROW, "row", spot="r"), make(COUNT, "count", spot="c")])


def nest(depth):
    """Maps within one another, ann.1 in ROOT, each other one in the one ahead of it."""
    return heard([make(("ann", n), "map", ("ann", n - 1) if n > 1 else ROOT) for n in range(1, depth + 1)])


def some_spot(chance, kind, places):
    """Mostly one that fits the kind of the holder."""
    if (kind == "row") == (chance.random() < 0.1):
        return chance.choice(["a", "b", "key"])
    under = chance.choice(places)
    return (under, chance.choice([-1, 1]) if under else 1)


def some_tree_deeds(chance, count):
    """Makes, moves and drops, most of them about what was made, some not."""
    made, kinds, places = [], {ROOT: "map", ("zoe", 1): None}, [()]
    for n in range(1, count + 1):
        name = (chance.choice(["ann", "bob", "cyd"]), n)
        holder, thing = chance.choice(list(kinds)), chance.choice(list(kinds))
        spot = some_spot(chance, kinds[holder], places)
        if type(spot) is tuple:
            places.append(spot[0] + ((spot[1],) + name + (0,),))
        roll = chance.random()
        if roll < 0.35:
            kinds[name] = chance.choice(["map", "map", "row", "row", "count"])
            made.append(make(name, kinds[name], holder, spot))
        elif roll < 0.9:
            made.append(move(name, thing, holder, spot))
        else:
            made.append(drop(name, thing))
    return made


class TestMakes(unittest.TestCase):

    def test_nothing_made_at_first(self):
        tree = Tree()
        self.assertEqual((tree.rows(), tree.lost(), tree.within(ROOT)), ([], [], []))
        self.assertEqual((tree.kind_of(ROOT), tree.held(ROOT)), ("map", None))
        self.assertEqual((tree.kind_of(MAP), tree.held(MAP), tree.within(MAP)), (None, None, []))

    def test_each_kind_into_root(self):
        for kind in KINDS:
            tree = Tree()
            self.assertEqual(tree.hear(make(MAP, kind, ROOT, "abcdefghijkl")), "done")
            self.assertEqual((tree.kind_of(MAP), tree.held(MAP)), (kind, (ROOT, "abcdefghijkl")))
            self.assertEqual(tree.rows(), [(MAP, kind, ROOT, "abcdefghijkl")])
            self.assertEqual(tree.within(ROOT), [MAP])

    def test_into_a_map_and_a_row(self):
        tree = small_tree()
        place = (step(1, "bob", 2),)
        self.assertEqual(tree.hear(make(("bob", 1), "map", MAP, "key")), "done")
        self.assertEqual(tree.hear(make(("bob", 2), "row", ROW, ((), 1))), "done")
        self.assertEqual(tree.hear(make(("bob", 3), "bag", ROW, (place, -1))), "done")
        self.assertEqual(tree.hear(make(("bob", 4), "text", ROW, (place, 1))), "done")
        self.assertEqual(tree.hear(make(("bob", 5), "count", ("bob", 2), ((), 1))), "done")
        self.assertEqual(tree.held(("bob", 1)), (MAP, "key"))
        self.assertEqual(tree.held(("bob", 2)), (ROW, place))
        self.assertEqual(tree.held(("bob", 3)), (ROW, place + (step(-1, "bob", 3),)))
        self.assertEqual(tree.held(("bob", 4)), (ROW, place + (step(1, "bob", 4),)))
        self.assertEqual(tree.held(("bob", 5)), (("bob", 2), (step(1, "bob", 5),)))
        self.assertEqual(tree.within(ROW), [("bob", 3), ("bob", 2), ("bob", 4)])

    def test_idle_by_the_holder(self):
        tree = small_tree()
        rows = tree.rows()
        pair = ((), 1)
        spots = [(("zoe", 1), "key"), (("zoe", 1), pair), (ROW, "key"), (MAP, pair), (ROOT, pair), (COUNT, "key"),
                 (COUNT, pair), (("bob", 1), "key"), (("bob", 1), pair)]
        for holder, spot in spots:
            self.assertEqual(tree.hear(make(("bob", 1), "map", holder, spot)), "idle", (holder, spot))
            self.assertEqual((tree.rows(), tree.lost()), (rows, []))
            self.assertIsNone(tree.kind_of(("bob", 1)))

    def test_every_leaf_holds_nothing(self):
        for kind in KINDS[2:]:
            tree = heard([make(MAP, kind)])
            self.assertEqual(tree.hear(make(("bob", 1), "map", MAP, "key")), "idle")
            self.assertEqual(tree.hear(make(("bob", 2), "map", MAP, ((), 1))), "idle")
            self.assertEqual(tree.within(MAP), [])

    def test_several_at_one_key(self):
        tree = heard([make(("bob", 2), "map"), make(("ann", 9), "map"), make(("ann", 10), "row")])
        self.assertEqual(tree.within(ROOT), [("ann", 9), ("ann", 10), ("bob", 2)])
        self.assertEqual({tree.held(thing) for thing in tree.within(ROOT)}, {(ROOT, "key")})

    def test_what_a_deed_has_seen_is_not_looked_at(self):
        self.assertEqual(Tree().hear(make(("bob", 7), "map", zoe=9)), "done")
        tree = heard([make(("bob", 7), "map", zoe=9)])
        self.assertEqual(tree.hear(move(("ann", 1), ("bob", 7), ROOT, "other")), "done")


class TestMoves(unittest.TestCase):

    def test_done(self):
        tree = small_tree()
        self.assertEqual(tree.hear(move(("bob", 1), COUNT, MAP, "in")), "done")
        self.assertEqual(tree.held(COUNT), (MAP, "in"))
        self.assertEqual(tree.hear(move(("bob", 2), MAP, ROW, ((), 1))), "done")
        self.assertEqual(tree.held(MAP), (ROW, (step(1, "bob", 2),)))
        self.assertEqual(tree.held(COUNT), (MAP, "in"))
        self.assertEqual((tree.within(ROOT), tree.within(ROW), tree.within(MAP)), ([ROW], [MAP], [COUNT]))
        self.assertEqual(tree.hear(move(("bob", 3), COUNT, ROOT, "out")), "done")
        self.assertEqual(tree.within(ROOT), [COUNT, ROW])
        self.assertEqual([tree.kind_of(thing) for thing in [MAP, ROW, COUNT]], ["map", "row", "count"])

    def test_the_place_is_by_the_name_of_the_move(self):
        tree = small_tree()
        tree.hear(make(("bob", 1), "map", ROW, ((), 1)))
        under = tree.held(("bob", 1))[1]
        tree.hear(move(("cyd", 4), ("bob", 1), ROW, (under, -1)))
        self.assertEqual(tree.held(("bob", 1)), (ROW, (step(1, "bob", 1), step(-1, "cyd", 4))))

    def test_to_another_key_and_to_the_same(self):
        tree = small_tree()
        self.assertEqual(tree.hear(move(("bob", 1), MAP, ROOT, "z")), "done")
        self.assertEqual(tree.within(ROOT), [COUNT, ROW, MAP])
        self.assertEqual(tree.hear(move(("bob", 2), MAP, ROOT, "z")), "done")
        self.assertEqual((tree.held(MAP), tree.lost()), ((ROOT, "z"), []))

    def test_idle(self):
        tree = small_tree()
        rows = tree.rows()
        pair = ((), 1)
        for thing, holder, spot in [(("zoe", 1), MAP, "key"), (ROOT, MAP, "key"), (ROOT, ROOT, "key"),
                                    (COUNT, ("zoe", 1), "key"), (COUNT, ("zoe", 1), pair), (COUNT, ROW, "key"),
                                    (COUNT, MAP, pair), (COUNT, ROOT, pair), (MAP, COUNT, "key"), (MAP, COUNT, pair),
                                    (("zoe", 1), ("zoe", 1), "key")]:
            self.assertEqual(tree.hear(move(("bob", 1), thing, holder, spot)), "idle", (thing, holder, spot))
            self.assertEqual((tree.rows(), tree.lost()), (rows, []))

    def test_idle_comes_ahead_of_lost(self):
        tree = small_tree()
        self.assertEqual(tree.hear(move(("bob", 1), MAP, MAP, ((), 1))), "idle")
        self.assertEqual(tree.hear(move(("bob", 2), ROW, ROW, "key")), "idle")
        self.assertEqual(tree.hear(move(("bob", 3), COUNT, COUNT, "key")), "idle")
        self.assertEqual(tree.lost(), [])

    def test_lost_into_itself(self):
        tree = small_tree()
        rows = tree.rows()
        self.assertEqual(tree.hear(move(("bob", 1), MAP, MAP, "key")), "lost")
        self.assertEqual(tree.hear(move(("ann", 9), ROW, ROW, ((), 1))), "lost")
        self.assertEqual((tree.rows(), tree.lost()), (rows, [("bob", 1), ("ann", 9)]))

    def test_lost_into_what_lies_within_it(self):
        tree = nest(5)
        rows = tree.rows()
        lost = []
        for n in range(1, 6):
            for k in range(n, 6):
                name = ("bob", 10 * n + k)
                self.assertEqual(tree.hear(move(name, ("ann", n), ("ann", k), "x")), "lost")
                lost.append(name)
        self.assertEqual((tree.rows(), tree.lost()), (rows, lost))
        self.assertEqual(tree.hear(move(("cyd", 1), ("ann", 4), ("ann", 1), "x")), "done")
        self.assertEqual(tree.hear(move(("cyd", 2), ("ann", 3), ("ann", 5), "x")), "done")
        self.assertEqual(tree.ring(("ann", 1), ("ann", 3)), [("ann", 3), ("ann", 5), ("ann", 4), ("ann", 1)])

    def test_seventy_deep(self):
        tree = nest(70)
        self.assertEqual(tree.hear(move(("bob", 1), ("ann", 1), ("ann", 70), "x")), "lost")
        self.assertEqual(len(tree.ring(("ann", 1), ("ann", 70))), 70)
        self.assertEqual(tree.hear(move(("bob", 2), ("ann", 70), ROOT, "x")), "done")
        self.assertEqual(tree.hear(move(("bob", 3), ("ann", 1), ("ann", 70), "x")), "done")
        self.assertEqual(tree.ring(("ann", 70), ("ann", 69))[-3:], [("ann", 2), ("ann", 1), ("ann", 70)])

    def test_deep_places(self):
        tree = small_tree()
        deep = chain("ann", 999)
        tree.hear(move(("bob", 1), COUNT, ROW, (deep, 1)))
        tree.hear(move(("bob", 2), MAP, ROW, (deep, -1)))
        self.assertEqual(tree.within(ROW), [MAP, COUNT])


class TestDrops(unittest.TestCase):

    def test_done(self):
        tree = small_tree()
        self.assertEqual(tree.hear(drop(("bob", 1), MAP)), "done")
        self.assertEqual((tree.held(MAP), tree.kind_of(MAP)), ((None, None), "map"))
        self.assertEqual(tree.within(ROOT), [COUNT, ROW])
        self.assertIn((MAP, "map", None, None), tree.rows())

    def test_idle(self):
        tree = small_tree()
        rows = tree.rows()
        self.assertEqual(tree.hear(drop(("bob", 1), ("zoe", 1))), "idle")
        self.assertEqual(tree.hear(drop(("bob", 2), ROOT)), "idle")
        self.assertEqual(tree.hear(drop(("bob", 3), ("bob", 3))), "idle")
        self.assertEqual(tree.rows(), rows)

    def test_again(self):
        tree = small_tree()
        for n in [1, 2]:
            self.assertEqual(tree.hear(drop(("bob", n), COUNT)), "done")
            self.assertEqual(tree.held(COUNT), (None, None))

    def test_what_lies_within_stays_there(self):
        tree = nest(3)
        tree.hear(drop(("bob", 1), ("ann", 2)))
        self.assertEqual(tree.held(("ann", 3)), (("ann", 2), "key"))
        self.assertEqual((tree.within(ROOT), tree.within(("ann", 1))), ([("ann", 1)], []))
        self.assertEqual(tree.within(("ann", 2)), [("ann", 3)])

    def test_moved_out_of_the_bin(self):
        tree = nest(3)
        tree.hear(drop(("bob", 1), ("ann", 1)))
        self.assertEqual(tree.hear(move(("bob", 2), ("ann", 2), ROOT, "out")), "done")
        self.assertEqual(tree.within(ROOT), [("ann", 2)])
        self.assertEqual(tree.hear(move(("bob", 3), ("ann", 1), ("ann", 3), "back")), "done")
        self.assertEqual(tree.held(("ann", 1)), (("ann", 3), "back"))

    def test_moved_into_and_within_the_bin(self):
        tree = nest(3)
        tree.hear(make(COUNT[:1] + (9,), "count", ROOT, "c"))
        tree.hear(drop(("bob", 1), ("ann", 1)))
        self.assertEqual(tree.hear(move(("bob", 2), ("ann", 9), ("ann", 3), "c")), "done")
        self.assertEqual(tree.hear(make(("bob", 3), "map", ("ann", 1), "new")), "done")
        self.assertEqual(tree.hear(move(("bob", 4), ("ann", 3), ("bob", 3), "x")), "done")
        self.assertEqual(tree.hear(move(("bob", 5), ("ann", 1), ("ann", 3), "x")), "lost")
        self.assertEqual(tree.hear(move(("bob", 6), ("ann", 1), ("ann", 1), "x")), "lost")
        self.assertEqual(tree.within(ROOT), [])
        self.assertEqual(tree.ring(("ann", 1), ("ann", 9)),
                         [("ann", 9), ("ann", 3), ("bob", 3), ("ann", 1)])

    def test_dropped_within_what_was_dropped(self):
        tree = nest(3)
        tree.hear(drop(("bob", 1), ("ann", 1)))
        self.assertEqual(tree.hear(drop(("bob", 2), ("ann", 3))), "done")
        self.assertEqual((tree.held(("ann", 3)), tree.within(("ann", 2))), ((None, None), []))


class TestTheWayUp(unittest.TestCase):

    def test_from_a_holder_to_a_thing(self):
        tree = nest(4)
        self.assertEqual(tree.ring(("ann", 2), ("ann", 4)), [("ann", 4), ("ann", 3), ("ann", 2)])
        self.assertEqual(tree.ring(("ann", 3), ("ann", 4)), [("ann", 4), ("ann", 3)])

    def test_the_same(self):
        tree = nest(2)
        for thing in [("ann", 1), ("ann", 2)]:
            self.assertEqual(tree.ring(thing, thing), [thing])

    def test_it_does_not_come_there(self):
        tree = nest(4)
        tree.hear(make(("bob", 1), "map", ("ann", 1), "side"))
        self.assertEqual(tree.ring(("ann", 4), ("ann", 2)), [])
        self.assertEqual(tree.ring(("bob", 1), ("ann", 4)), [])
        self.assertEqual(tree.ring(("ann", 2), ("bob", 1)), [])
        self.assertEqual(tree.ring(("ann", 1), ROOT), [])

    def test_from_what_was_not_made(self):
        self.assertEqual(nest(2).ring(("ann", 1), ("zoe", 1)), [])

    def test_it_ends_at_a_thing_that_was_dropped(self):
        tree = nest(4)
        tree.hear(drop(("bob", 1), ("ann", 3)))
        self.assertEqual(tree.ring(("ann", 3), ("ann", 4)), [("ann", 4), ("ann", 3)])
        self.assertEqual(tree.ring(("ann", 2), ("ann", 4)), [])


class TestOrders(unittest.TestCase):

    def test_a_map_by_keys_and_at_the_same_key_by_names(self):
        tree = heard([make(("bob", 3), "map", ROOT, "b"), make(("zoe", 1), "map", ROOT, "a"),
                      make(("ann", 10), "map", ROOT, "b"), make(("ann", 9), "map", ROOT, "b"),
                      make(("ann", 1), "map", ROOT, "ba"), make(("an", 99), "map", ROOT, "b")])
        self.assertEqual(tree.within(ROOT),
                         [("zoe", 1), ("an", 99), ("ann", 9), ("ann", 10), ("bob", 3), ("ann", 1)])

    def test_a_row_by_places(self):
        row = ("mia", 1)
        x = (step(1, "bob", 5),)
        tree = heard([make(row, "row"), make(("bob", 5), "map", row, ((), 1)), make(("cyd", 1), "map", row, (x, -1)),
                      make(("cyd", 2), "map", row, (x, 1)), make(("ann", 7), "map", row, ((), 1)),
                      make(("zoe", 1), "map", row, ((), 1)), make(("ann", 8), "map", row, (x, -1))])
        self.assertEqual(tree.within(row),
                         [("ann", 7), ("ann", 8), ("cyd", 1), ("bob", 5), ("cyd", 2), ("zoe", 1)])

    def test_rows_are_sorted_by_thing(self):
        tree = heard([make(("bob", 1), "map", ROOT, "a"), make(("ann", 10), "row", ROOT, "b"),
                      make(("ann", 9), "bag", ("bob", 1), "c"), drop(("cyd", 1), ("ann", 10))])
        self.assertEqual(tree.rows(), [(("ann", 9), "bag", ("bob", 1), "c"), (("ann", 10), "row", None, None),
                                       (("bob", 1), "map", ROOT, "a")])

    def test_lost_moves_in_the_order_in_which_they_were_heard(self):
        tree = nest(2)
        names = [("zoe", 3), ("ann", 9), ("bob", 1), ("ann", 8)]
        for name in names:
            tree.hear(move(name, ("ann", 1), ("ann", 2), "x"))
        self.assertEqual(tree.lost(), names)


class TestByTheWords(unittest.TestCase):

    def test_some_deeds(self):
        chance = random.Random(51)
        fates = []
        for turn in range(150):
            tree, model = Tree(), TreeByWords()
            for one in some_tree_deeds(chance, 30):
                fates.append(tree.hear(one))
                self.assertEqual(fates[-1], model.hear(one), one)
                self.assertEqual((tree.rows(), tree.lost()), (model.rows(), model.lost))
            for thing in model.kinds:
                self.assertEqual(tree.within(thing), model.within(thing))
                self.assertEqual(tree.kind_of(thing), model.kinds[thing])
                self.assertEqual(tree.held(thing), model.spots.get(thing))
                for holder in model.spots if thing != ROOT else []:
                    self.assertEqual(bool(tree.ring(thing, holder)), holder in model.below(thing))
        for fate in ["done", "idle", "lost"]:
            self.assertGreater(fates.count(fate), 50)

    def test_each_way_up_ends_at_root_or_at_a_thing_that_was_dropped(self):
        chance = random.Random(52)
        for turn in range(60):
            tree = heard(some_tree_deeds(chance, 40))
            for row in tree.rows():
                thing, steps = row[0], 0
                while tree.held(thing) not in (None, (None, None)):
                    thing, steps = tree.held(thing)[0], steps + 1
                    self.assertLess(steps, 50)
                self.assertTrue(thing == ROOT or tree.held(thing) == (None, None))


class TestFilling(unittest.TestCase):

    def test_in_the_place_of_all_that_stood(self):
        tree = small_tree()
        tree.hear(move(("bob", 1), MAP, MAP, "x"))
        rows = [(("cyd", 1), "row", ROOT, "a"), (("cyd", 2), "map", ("cyd", 1), (step(1, "cyd", 2),)),
                (("cyd", 3), "map", None, None)]
        tree.fill(rows, [("zoe", 2), ("ann", 1)])
        self.assertEqual((tree.rows(), tree.lost()), (rows, [("zoe", 2), ("ann", 1)]))
        self.assertEqual((tree.kind_of(MAP), tree.within(ROOT)), (None, [("cyd", 1)]))
        tree.fill([], [])
        self.assertEqual((tree.rows(), tree.lost(), tree.within(ROOT)), ([], [], []))

    def test_goes_on_as_the_one_that_told_the_rows(self):
        chance = random.Random(53)
        for turn in range(80):
            deeds = some_tree_deeds(chance, 30)
            halfway = chance.randint(0, 30)
            one, other = heard(deeds[:halfway]), small_tree()
            other.hear(move(("bob", 1), MAP, MAP, "x"))
            other.fill(one.rows(), one.lost())
            for late in deeds[halfway:]:
                self.assertEqual(other.hear(late), one.hear(late))
            self.assertEqual((other.rows(), other.lost()), (one.rows(), one.lost()))
            for row in one.rows():
                self.assertEqual(other.within(row[0]), one.within(row[0]))


class TestTheAskersOwn(unittest.TestCase):

    def setUp(self):
        self.tree = nest(3)
        self.tree.hear(move(("bob", 1), ("ann", 1), ("ann", 3), "x"))
        self.rows = copy.deepcopy(self.tree.rows())

    def told(self):
        return (self.tree.rows(), self.tree.lost(), self.tree.within(ROOT), self.tree.ring(("ann", 1), ("ann", 3)))

    def test_what_is_told_may_be_changed(self):
        before = copy.deepcopy(self.told())
        for one in self.told():
            one.clear()
        self.assertEqual(self.told(), before)

    def test_what_was_told_stays(self):
        told = self.told()
        before = copy.deepcopy(told)
        self.tree.hear(move(("bob", 2), ("ann", 2), ("ann", 3), "x"))
        self.tree.hear(drop(("bob", 3), ("ann", 1)))
        self.assertEqual(told, before)

    def test_what_is_handed_in_stays_and_may_be_changed(self):
        rows, lost = copy.deepcopy(self.rows), [("bob", 1)]
        self.tree.fill(rows, lost)
        self.tree.hear(move(("bob", 2), ("ann", 2), ("ann", 3), "x"))
        self.tree.hear(drop(("bob", 3), ("ann", 1)))
        self.assertEqual((rows, lost), (self.rows, [("bob", 1)]))
        self.tree.fill(rows, lost)
        rows.clear()
        lost.clear()
        self.assertEqual((self.tree.rows(), self.tree.lost()), (self.rows, [("bob", 1)]))

    def test_kinds_of_what_is_told(self):
        for one in self.told():
            self.assertIs(type(one), list)
        self.assertIs(type(self.tree.rows()[0]), tuple)
        self.assertIs(type(self.tree.held(("ann", 1))), tuple)


if __name__ == "__main__":
    unittest.main()
