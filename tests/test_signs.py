"""Points 20 and 21, and points 2 and 3 as far as signs go."""

import copy
import random
import unittest

from copymeet.places import before, gap, places_of
from copymeet.signs import Signs
from tests.helpers import by_places, chain, step, write


def written(deeds):
    signs = Signs()
    for one in deeds:
        signs.write(one)
    return signs


def shown(signs):
    return "".join(sign for place, sign in signs.rows())


def some_writing(chance, signs, kept, turn):
    """Write a deed at some gap of what is kept; kept is the list of rows that signs has to tell."""
    spot = chance.randint(0, len(kept))
    left = kept[spot - 1][0] if spot else ()
    right = kept[spot][0] if spot < len(kept) else None
    under, side = gap(left, right)
    text = "".join(chance.choice("abc ~") for count in range(chance.randint(1, 12)))
    one = write(chance.choice(["a", "bob", "zoe"]), turn, text, under, side)
    signs.write(one)
    kept[spot:spot] = list(zip(places_of(one), text))


class TestWriting(unittest.TestCase):

    def test_no_signs_at_first(self):
        self.assertEqual(Signs().rows(), [])

    def test_one_sign(self):
        self.assertEqual(written([write("ann", 1, "a")]).rows(), [(((1, "ann", 1, 0),), "a")])

    def test_twelve_signs(self):
        one = write("ann", 1, "hello, you ~")
        signs = written([one])
        self.assertEqual(signs.rows(), list(zip(places_of(one), "hello, you ~")))
        self.assertEqual(shown(signs), "hello, you ~")

    def test_behind_before_and_between(self):
        one = write("ann", 1, "ad")
        first, last = places_of(one)
        signs = written([one, write("ann", 2, "ef", last, 1), write("bob", 1, "<<", first, -1)])
        self.assertEqual(shown(signs), "<<adef")
        signs.write(write("bob", 2, "bc", *gap(first, last)))
        self.assertEqual(shown(signs), "<<abcdef")

    def test_beside_one_another_by_hand_and_number(self):
        deeds = [write("bob", 1, "bb"), write("ann", 10, "22"), write("ann", 9, "11")]
        for way in [deeds, deeds[::-1], deeds[1:] + deeds[:1]]:
            self.assertEqual(shown(written(way)), "1122bb")

    def test_things_are_not_looked_at(self):
        self.assertEqual(shown(written([write("ann", 1, "a", thing=("", 0)), write("bob", 1, "b")])), "ab")


class TestCutting(unittest.TestCase):

    def setUp(self):
        self.one = write("ann", 1, "abcdef")
        self.places = places_of(self.one)
        self.signs = written([self.one])

    def test_tells_the_rows_taken_out(self):
        self.assertEqual(self.signs.cut([self.places[2]]), [(self.places[2], "c")])
        self.assertEqual(shown(self.signs), "abdef")

    def test_rows_are_told_in_the_order_of_their_places(self):
        before_first = write("bob", 1, "xy", self.places[0], -1)
        self.signs.write(before_first)
        x, y = places_of(before_first)
        told = self.signs.cut([self.places[4], y, self.places[0], x, self.places[1]])
        self.assertEqual(told, [(x, "x"), (y, "y"), (self.places[0], "a"), (self.places[1], "b"),
                                (self.places[4], "e")])
        self.assertEqual(shown(self.signs), "cdf")

    def test_a_tuple_of_places(self):
        self.assertEqual(self.signs.cut((self.places[1], self.places[0])),
                         [(self.places[0], "a"), (self.places[1], "b")])
        self.assertEqual(shown(self.signs), "cdef")

    def test_places_without_a_sign_are_passed_over(self):
        none = (step(1, "zoe", 1),)
        self.assertEqual(self.signs.cut([none]), [])
        self.assertEqual(self.signs.cut([none, self.places[5], none]), [(self.places[5], "f")])
        self.assertEqual(self.signs.cut([self.places[5]]), [])
        self.assertEqual(shown(self.signs), "abcde")

    def test_a_beginning_or_a_longer_place_is_another_place(self):
        self.assertEqual(self.signs.cut([self.places[5] + (step(1, "ann", 1, 6),), (step(1, "ann", 1, 1),)]), [])
        self.signs.cut([self.places[0]])
        self.assertEqual(shown(self.signs), "bcdef")

    def test_a_place_told_twice(self):
        self.assertEqual(self.signs.cut([self.places[3], self.places[1], self.places[3]]),
                         [(self.places[1], "b"), (self.places[3], "d")])
        self.assertEqual(shown(self.signs), "acef")

    def test_nothing_to_cut(self):
        self.assertEqual(self.signs.cut([]), [])
        self.assertEqual(self.signs.cut(()), [])
        self.assertEqual(Signs().cut(self.places), [])
        self.assertEqual(shown(self.signs), "abcdef")

    def test_all_is_cut(self):
        self.assertEqual(self.signs.cut(self.places[::-1]), list(zip(self.places, "abcdef")))
        self.assertEqual(self.signs.rows(), [])

    def test_what_is_written_beside_a_sign_that_is_cut(self):
        self.signs.cut(self.places)
        self.signs.write(write("bob", 1, "B", self.places[3], 1))
        self.signs.write(write("bob", 2, "A", self.places[3], -1))
        self.assertEqual(shown(self.signs), "AB")


class TestFilling(unittest.TestCase):

    def test_in_the_place_of_all_that_was_kept(self):
        one = written([write("ann", 1, "abc"), write("bob", 1, "xyz")])
        other = written([write("cyd", 1, "gone"), write("ann", 1, "abc")])
        other.fill(one.rows())
        self.assertEqual(other.rows(), one.rows())
        other.fill([])
        self.assertEqual(other.rows(), [])

    def test_goes_on_as_the_one_that_told_the_rows(self):
        chance = random.Random(8)
        for turn in range(30):
            one, kept = Signs(), []
            for count in range(1, 10):
                some_writing(chance, one, kept, count)
            one.cut([place for place, sign in chance.sample(kept, len(kept) // 2)])
            other = written([write("mia", 1, "abc")])
            other.fill(one.rows())
            late = write("zoe", 99, "late", chance.choice(kept)[0], -1)
            gone = [place for place, sign in chance.sample(kept, 5)] + places_of(late)[:1]
            for signs in [one, other]:
                signs.write(late)
            self.assertEqual(other.cut(gone), one.cut(gone))
            self.assertEqual(other.rows(), one.rows())


class TestOrder(unittest.TestCase):

    def test_signs_keep_their_order_whatever_is_written_or_cut(self):
        chance = random.Random(9)
        for turn in range(25):
            signs, kept = Signs(), []
            for count in range(1, 25):
                if kept and chance.random() < 0.4:
                    gone = chance.sample(kept, chance.randint(1, len(kept)))
                    told = signs.cut([place for place, sign in gone])
                    self.assertEqual(told, [row for row in kept if row in gone])
                    kept = [row for row in kept if row not in gone]
                else:
                    some_writing(chance, signs, kept, count)
                self.assertEqual(signs.rows(), kept)

    def test_the_order_is_that_of_places_whatever_order_they_came_in(self):
        chance = random.Random(10)
        deeds, unders = [], [()]
        for n in range(1, 40):
            under = chance.choice(unders)
            side = chance.choice([-1, 1]) if under else 1
            one = write(chance.choice(["a", "bob", "zoe"]), n, "abcdefghijkl"[:chance.randint(1, 12)], under, side)
            deeds.append(one)
            unders += places_of(one)
        rows = by_places([row for one in deeds for row in zip(places_of(one), one[2][4])], lambda row: row[0])
        for turn in range(5):
            chance.shuffle(deeds)
            self.assertEqual(written(deeds).rows(), rows)

    def test_deep_places_and_a_thousand_signs(self):
        signs, under, deeds = Signs(), (), []
        for n in range(1, 84):
            deeds.append(write("ann", n, "abcdefghijkl", under))
            under = places_of(deeds[-1])[-1]
        self.assertEqual(len(under), 996)
        for one in deeds[::-1]:
            signs.write(one)
        self.assertEqual(shown(signs), "abcdefghijkl" * 83)
        self.assertEqual(signs.rows()[-1], (under, "l"))
        told = signs.cut([under, under[:1], under[:500]])
        self.assertEqual([len(place) for place, sign in told], [1, 500, 996])
        self.assertEqual(len(signs.rows()), 993)

    def test_a_sign_at_a_thousand_steps(self):
        deep = chain("ann", 999)
        signs = written([write("bob", 2, "y", deep, 1), write("bob", 1, "x", deep, -1)])
        self.assertEqual(shown(signs), "xy")
        self.assertTrue(before(signs.rows()[0][0], deep))


class TestTheAskersOwn(unittest.TestCase):

    def setUp(self):
        self.one = write("ann", 1, "abc")
        self.places = places_of(self.one)
        self.signs = written([self.one])
        self.rows = list(zip(self.places, "abc"))

    def test_what_is_told_may_be_changed(self):
        self.signs.rows().clear()
        self.assertEqual(self.signs.rows(), self.rows)
        told = self.signs.cut([self.places[0]])
        told.clear()
        self.assertEqual(self.signs.rows(), self.rows[1:])

    def test_what_was_told_stays(self):
        told = self.signs.rows()
        gone = self.signs.cut(self.places[:2])
        self.signs.write(write("bob", 1, "zz"))
        self.signs.cut(self.places)
        self.assertEqual((told, gone), (self.rows, self.rows[:2]))

    def test_what_is_handed_in_stays_and_may_be_changed(self):
        handed = copy.deepcopy(self.rows)
        self.signs.fill(handed)
        self.signs.cut(self.places[:1])
        self.signs.write(write("bob", 1, "zz"))
        self.assertEqual(handed, self.rows)
        self.signs.fill(handed)
        handed.clear()
        self.assertEqual(self.signs.rows(), self.rows)

    def test_places_handed_in_stay(self):
        handed = [self.places[1], self.places[0], self.places[1]]
        self.signs.cut(handed)
        self.assertEqual(handed, [self.places[1], self.places[0], self.places[1]])

    def test_kinds_of_what_is_told(self):
        for rows in [self.signs.rows(), self.signs.cut(self.places)]:
            self.assertIs(type(rows), list)
            self.assertEqual({(type(row), type(row[0]), type(row[1])) for row in rows}, {(tuple, tuple, str)})

    def test_two_keep_apart(self):
        other = Signs()
        self.assertEqual(other.rows(), [])
        other.fill(self.signs.rows())
        other.cut(self.places)
        self.assertEqual(self.signs.rows(), self.rows)


if __name__ == "__main__":
    unittest.main()
