"""Points 15 to 19 and 21, and points 2 and 3 as far as places go."""

import itertools
import random
import unittest

from copymeet.errors import NoPlace
from copymeet.places import before, gap, place_of, places_of
from tests.helpers import BIG, before_by_words, chain, some_places, step, write

X = step(1, "ann", 4)


class PlaceCase(unittest.TestCase):

    def assert_before(self, one, other):
        self.assertIs(before(one, other), True, (one, other))
        self.assertIs(before(other, one), False, (one, other))


class TestBefore(PlaceCase):

    def test_the_document_s_own_places(self):
        self.assert_before((X, step(-1, "bob", 2)), (X,))
        self.assert_before((X,), (X, step(1, "ann", 9)))

    def test_by_side(self):
        self.assert_before((X, step(-1, "zoe", 9, 11)), (X, step(1, "ann", 1, 0)))
        self.assert_before((X, X, step(-1, "zoe", 9, 11), X), (X, X, step(1, "ann", 1, 0), step(-1, "a", 1)))

    def test_by_hand(self):
        for one, other in [("ann", "bob"), ("an", "ann"), ("ann", "anna"), ("az", "b"), ("a", "zzzzzzzz")]:
            for side in [-1, 1]:
                self.assert_before((X, step(side, one, 9, 11)), (X, step(side, other, 1, 0)))
            self.assert_before((step(1, one, 9, 11),), (step(1, other, 1, 0),))

    def test_by_n(self):
        for one, other in [(1, 2), (9, 10), (99, 100), (BIG - 1, BIG), (1, BIG)]:
            for side in [-1, 1]:
                self.assert_before((X, step(side, "ann", one, 11)), (X, step(side, "ann", other, 0)))

    def test_by_k(self):
        for one, other in [(0, 1), (9, 10), (10, 11), (2, 11)]:
            for side in [-1, 1]:
                self.assert_before((X, step(side, "ann", 7, one)), (X, step(side, "ann", 7, other)))

    def test_only_the_first_difference_matters(self):
        self.assert_before((step(1, "ann", 1), step(1, "zoe", 9)), (step(1, "ann", 2), step(-1, "ann", 1)))
        self.assert_before((step(1, "ann", 1),) + chain("zoe", 5), (step(1, "ann", 2),))
        self.assert_before((step(1, "ann", 1),), (step(1, "ann", 2), step(-1, "ann", 1)))

    def test_a_beginning_of_the_other(self):
        for under in [(X,), (X, step(-1, "bob", 1)), chain("cyd", 30)]:
            for hand in ["a", "ann", "zoe"]:
                for tail in [(), (step(1, "zoe", 1),), (step(-1, "a", 1), step(1, "zoe", 3))]:
                    self.assert_before(under + (step(-1, hand, 5),) + tail, under)
                    self.assert_before(under, under + (step(1, hand, 5),) + tail)

    def test_alike_places(self):
        for place in [(X,), (X, step(-1, "bob", 1)), chain("ann", 1000)]:
            self.assertIs(before(place, tuple(list(place))), False)

    def test_the_start(self):
        self.assertIs(before((), ()), False)
        for place in [(X,), (step(1, "a", 1), step(-1, "a", 1)), chain("ann", 500)]:
            self.assert_before((), place)

    def test_by_the_words(self):
        places = [()] + some_places(random.Random(3), 150)
        for one, other in itertools.product(places, places):
            self.assertIs(before(one, other), before_by_words(one, other), (one, other))

    def test_one_order_of_any_three(self):
        places = [()] + some_places(random.Random(4), 34)
        for one, other in itertools.combinations(places, 2):
            self.assertNotEqual(before(one, other), before(other, one))
        for one, other, third in itertools.permutations(places, 3):
            if before(one, other) and before(other, third):
                self.assertIs(before(one, third), True)

    def test_a_thousand_steps(self):
        deep = chain("ann", 999)
        self.assert_before(deep + (step(-1, "zoe", 9),), deep)
        self.assert_before(deep, deep + (step(1, "a", 1),))
        self.assert_before(deep + (step(-1, "b", 1),), deep + (step(-1, "b", 2),))
        self.assert_before(deep[:500], deep)
        self.assert_before(deep[:500] + (step(-1, "zoe", 9),) + deep, deep[:500])


class TestPlaceOf(unittest.TestCase):

    def test_both_sides_and_the_start(self):
        self.assertEqual(place_of(((), 1), ("ann", 3)), ((1, "ann", 3, 0),))
        self.assertEqual(place_of(((X,), 1), ("bob", 7)), (X, (1, "bob", 7, 0)))
        self.assertEqual(place_of(((X,), -1), ("bob", 7)), (X, (-1, "bob", 7, 0)))
        self.assertEqual(place_of((chain("ann", 20), -1), ("ann", BIG)), chain("ann", 20) + ((-1, "ann", BIG, 0),))

    def test_is_a_plain_tuple(self):
        place = place_of(((X,), -1), ("bob", 7))
        self.assertIs(type(place), tuple)
        self.assertEqual([type(each) for each in place], [tuple, tuple])

    def test_a_thousand_steps(self):
        deep = chain("ann", 999)
        self.assertEqual(place_of((deep, 1), ("bob", 2)), deep + ((1, "bob", 2, 0),))


class TestPlacesOf(PlaceCase):

    def test_one_sign(self):
        self.assertEqual(places_of(write("ann", 3, "a")), [((1, "ann", 3, 0),)])
        self.assertEqual(places_of(write("ann", 3, "a", (X,), -1)), [(X, (-1, "ann", 3, 0))])

    def test_three_signs(self):
        first = (X, (-1, "bob", 5, 0))
        second = first + ((1, "bob", 5, 1),)
        self.assertEqual(places_of(write("bob", 5, "abc", (X,), -1)), [first, second, second + ((1, "bob", 5, 2),)])

    def test_twelve_signs(self):
        for under, side in [((), 1), ((X,), 1), ((X,), -1), (chain("cyd", 40), -1)]:
            told = places_of(write("ann", 9, "abcdefghijkl", under, side, ann=8, bob=4))
            whole = under + ((side, "ann", 9, 0),) + tuple((1, "ann", 9, k) for k in range(1, 12))
            self.assertEqual(told, [whole[:len(under) + k] for k in range(1, 13)])
            for one, other in zip(told, told[1:]):
                self.assert_before(one, other)

    def test_the_signs_themselves_do_not_matter(self):
        self.assertEqual(places_of(write("ann", 1, "   ")), places_of(write("ann", 1, "a~a")))

    def test_a_new_list_each_time(self):
        one = write("ann", 1, "ab")
        places_of(one).clear()
        self.assertIs(type(places_of(one)), list)
        self.assertEqual(len(places_of(one)), 2)


class TestGap(PlaceCase):

    def assert_no_gap(self, left, right):
        with self.assertRaises(NoPlace) as taken:
            gap(left, right)
        self.assertEqual(taken.exception.place, left)

    def test_from_the_start(self):
        self.assertEqual(gap((), None), ((), 1))
        for right in [(X,), (X, step(-1, "bob", 1)), chain("ann", 50)]:
            self.assertEqual(gap((), right), (right, -1))

    def test_behind_all(self):
        for left in [(X,), (X, step(-1, "bob", 1)), chain("ann", 50)]:
            self.assertEqual(gap(left, None), (left, 1))

    def test_a_right_that_begins_with_all_steps_of_left(self):
        for tail in [(step(1, "bob", 1),), (step(1, "bob", 1), step(-1, "bob", 1)), (step(1, "a", 1),) * 9]:
            self.assertEqual(gap((X,), (X,) + tail), ((X,) + tail, -1))

    def test_others(self):
        right = (step(1, "bob", 1),)
        self.assertEqual(gap((X,), right), ((X,), 1))
        self.assertEqual(gap((X, step(1, "zoe", 9)), right), ((X, step(1, "zoe", 9)), 1))
        self.assertEqual(gap((X, step(-1, "zoe", 9)), (X,)), ((X, step(-1, "zoe", 9)), 1))
        self.assertEqual(gap((X, step(-1, "a", 1)), (X, step(1, "a", 1))), ((X, step(-1, "a", 1)), 1))
        self.assertEqual(gap((X,), right + (step(-1, "a", 1),)), ((X,), 1))

    def test_no_place_where_left_is_not_before_right(self):
        self.assert_no_gap((X,), (X,))
        self.assert_no_gap(chain("ann", 1000), chain("ann", 1000))
        self.assert_no_gap((step(1, "bob", 1),), (X,))
        self.assert_no_gap((X,), (X, step(-1, "bob", 1)))
        self.assert_no_gap((X, step(1, "bob", 1)), (X,))
        self.assert_no_gap((X, step(1, "bob", 1), X), (X, step(-1, "zoe", 1)))

    def test_is_a_plain_tuple(self):
        for left, right in [((), None), ((), (X,)), ((X,), None)]:
            self.assertIs(type(gap(left, right)), tuple)

    def test_what_is_put_by_it_is_behind_left_and_before_right(self):
        chance = random.Random(5)
        places = [()] + some_places(chance, 60)
        tried = 0
        for left, right in itertools.product(places, places[1:] + [None]):
            if right is not None and not before_by_words(left, right):
                self.assert_no_gap(left, right)
                continue
            tried += 1
            pair = gap(left, right)
            for hand, n in [("a", 3), ("bob", 2), ("zoe", 1), ("ann", 77)]:
                told = places_of(write(hand, n, "abcdefghijkl", pair[0], pair[1]))
                self.assertEqual(told[0], place_of(pair, (hand, n)))
                for place in told:
                    self.assert_before(left, place)
                    if right is not None:
                        self.assert_before(place, right)
        self.assertGreater(tried, 1000)

    def test_deep_places(self):
        left = chain("ann", 999)
        right = left + (step(1, "bob", 2),)
        self.assertEqual(gap(left, right), (right, -1))
        self.assertEqual(gap(left + (step(-1, "bob", 2),), left), (left + (step(-1, "bob", 2),), 1))


class TestBetweenTheSignsOfOneDeed(PlaceCase):

    def test_what_stands_there_begins_with_the_first_one_s_place(self):
        one, other = places_of(write("mia", 5, "ab"))
        chance = random.Random(6)
        between = [one, other]
        for turn in range(200):
            left = chance.randint(0, len(between) - 2)
            under, side = gap(between[left], between[left + 1])
            told = places_of(write(chance.choice(["a", "zoe"]), turn + 1, "xyz", under, side))
            between[left + 1:left + 1] = told
            for place in told:
                self.assertEqual(place[:len(one)], one)
                self.assert_before(one, place)
                self.assert_before(place, other)


if __name__ == "__main__":
    unittest.main()
