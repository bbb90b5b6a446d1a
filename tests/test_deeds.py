"""Points 5 to 8, and points 2 and 3 as far as deeds go."""

import copy
import itertools
import random
import unittest

from copymeet.deeds import ROOT, ahead, covers, in_order, joined, stamp, widened
from tests.helpers import BIG, GREAT_AMOUNT, add, back, deed, names, settle, some_list, some_seen

# Alike but at one place, and beginnings of one another.
HANDS = ["a", "an", "anm", "ann", "anna", "anz", "bnn", "zzzzzzzz"]


class SeenCase(unittest.TestCase):

    def assert_seen(self, seen):
        """Of the form that [6] tells."""
        self.assertIs(type(seen), tuple)
        for pair in seen:
            self.assertIs(type(pair), tuple)
            self.assertEqual([type(part) for part in pair], [str, int])
            self.assertGreaterEqual(pair[1], 1)
        hands = [pair[0] for pair in seen]
        self.assertEqual(hands, sorted(set(hands)))

    def some_seens(self, count, greatest=6):
        chance = random.Random(count)
        return [some_seen(chance, HANDS[:5], greatest) for turn in range(count)]


class TestCovers(SeenCase):

    def test_root(self):
        self.assertEqual(ROOT, ("", 0))
        self.assertIs(type(ROOT), tuple)

    def test_number_below_at_and_above(self):
        seen = (("ann", 3), ("bob", 1))
        self.assertIs(covers(seen, ("ann", 1)), True)
        self.assertIs(covers(seen, ("ann", 2)), True)
        self.assertIs(covers(seen, ("ann", 3)), True)
        self.assertIs(covers(seen, ("ann", 4)), False)
        self.assertIs(covers(seen, ("bob", 1)), True)
        self.assertIs(covers(seen, ("bob", 2)), False)

    def test_hand_that_the_seen_has_not(self):
        seen = (("ann", 3), ("cyd", 5))
        for hand in ["bob", "aaa", "dan"]:
            self.assertIs(covers(seen, (hand, 1)), False)

    def test_the_empty_seen_covers_nothing(self):
        self.assertIs(covers((), ("ann", 1)), False)
        self.assertIs(covers((), ROOT), False)

    def test_root_is_never_covered(self):
        self.assertIs(covers((("a", 1), ("ann", 3)), ROOT), False)

    def test_hands_that_are_alike_or_beginnings(self):
        for hand in HANDS:
            for other in HANDS:
                self.assertIs(covers(((hand, 4),), (other, 4)), hand == other, (hand, other))

    def test_each_hand_has_its_own_number(self):
        seen = tuple((hand, 2 * turn + 1) for turn, hand in enumerate(HANDS))
        for turn, hand in enumerate(HANDS):
            self.assertIs(covers(seen, (hand, 2 * turn + 1)), True)
            self.assertIs(covers(seen, (hand, 2 * turn + 2)), False)

    def test_twelve_figures(self):
        self.assertIs(covers((("ann", BIG),), ("ann", BIG)), True)
        self.assertIs(covers((("ann", BIG - 1),), ("ann", BIG)), False)
        self.assertIs(covers((("ann", BIG),), ("ann", 1)), True)


class TestJoined(SeenCase):

    def test_the_greater_number_of_each_hand(self):
        one = (("ann", 3), ("bob", 1), ("cyd", 2))
        other = (("anna", 2), ("bob", 4), ("cyd", 1))
        both = (("ann", 3), ("anna", 2), ("bob", 4), ("cyd", 2))
        self.assertEqual(joined(one, other), both)
        self.assertEqual(joined(other, one), both)

    def test_one_and_itself_and_one_and_nothing(self):
        for seen in self.some_seens(40):
            self.assertEqual(joined(seen, seen), seen)
            self.assertEqual(joined(seen, ()), seen)
            self.assertEqual(joined((), seen), seen)
        self.assertEqual(joined((), ()), ())

    def test_hands_rise_whichever_comes_first(self):
        self.assertEqual(joined((("bob", 1),), (("ann", 1),)), (("ann", 1), ("bob", 1)))
        self.assertEqual(joined((("anna", 1),), (("ann", 9),)), (("ann", 9), ("anna", 1)))
        self.assertEqual(joined((("b", 1),), (("az", 1),)), (("az", 1), ("b", 1)))

    def test_covers_just_what_one_or_both_cover(self):
        seens = self.some_seens(60)
        for one, other in zip(seens, reversed(seens)):
            both = joined(one, other)
            self.assert_seen(both)
            self.assertEqual(both, joined(other, one))
            for name in itertools.product(HANDS, range(1, 9)):
                self.assertIs(covers(both, name), covers(one, name) or covers(other, name))

    def test_numbers_are_not_compared_as_texts(self):
        self.assertEqual(joined((("ann", 9),), (("ann", 10),)), (("ann", 10),))

    def test_twelve_figures(self):
        self.assertEqual(joined((("ann", BIG),), (("ann", BIG - 1), ("bob", BIG))), (("ann", BIG), ("bob", BIG)))

    def test_what_is_handed_in_stays(self):
        one, other = (("ann", 1), ("bob", 5)), (("ann", 2),)
        joined(one, other)
        self.assertEqual((one, other), ((("ann", 1), ("bob", 5)), (("ann", 2),)))


class TestWidened(SeenCase):

    def test_by_a_name_that_is_covered(self):
        seen = (("ann", 3), ("bob", 1))
        for n in [1, 2, 3]:
            self.assertEqual(widened(seen, ("ann", n)), seen)

    def test_by_a_name_that_is_not_covered(self):
        seen = (("ann", 3), ("bob", 1))
        self.assertEqual(widened(seen, ("ann", 4)), (("ann", 4), ("bob", 1)))
        self.assertEqual(widened(seen, ("bob", 10)), (("ann", 3), ("bob", 10)))

    def test_by_a_new_hand(self):
        seen = (("ann", 3), ("bob", 1))
        self.assertEqual(widened(seen, ("an", 2)), (("an", 2), ("ann", 3), ("bob", 1)))
        self.assertEqual(widened(seen, ("anna", 2)), (("ann", 3), ("anna", 2), ("bob", 1)))
        self.assertEqual(widened(seen, ("cyd", 1)), (("ann", 3), ("bob", 1), ("cyd", 1)))

    def test_of_nothing_seen(self):
        self.assertEqual(widened((), ("ann", 5)), (("ann", 5),))
        self.assertEqual(widened((), ("ann", BIG)), (("ann", BIG),))

    def test_covers_that_hands_deeds_beside_and_no_others(self):
        for seen in self.some_seens(30):
            for wide in itertools.product(HANDS, [1, 3, 6, 7]):
                told = widened(seen, wide)
                self.assert_seen(told)
                for name in itertools.product(HANDS, range(1, 9)):
                    beside = name[0] == wide[0] and name[1] <= wide[1]
                    self.assertIs(covers(told, name), covers(seen, name) or beside)


class TestStamp(unittest.TestCase):

    def test_of_nothing_seen(self):
        self.assertEqual(stamp(add("ann", 1)), 1)
        self.assertEqual(stamp(add("zoe", 1)), 1)

    def test_is_one_and_the_sum_of_the_seen(self):
        self.assertEqual(stamp(add("ann", 2)), 2)
        self.assertEqual(stamp(add("ann", 1, bob=4)), 5)
        self.assertEqual(stamp(add("ann", 3, bob=4, cyd=10)), 17)

    def test_the_act_does_not_matter(self):
        for act in [("back", 4, 9), ("settle",), ("add", ("bob", 9), GREAT_AMOUNT)]:
            self.assertEqual(stamp(deed("ann", 3, act, bob=4)), 7)

    def test_is_as_great_as_it_has_to_be(self):
        self.assertEqual(stamp(add("ann", BIG, bob=BIG, cyd=BIG, dan=BIG, eve=BIG, fay=BIG)), 6 * BIG)


class TestAhead(unittest.TestCase):

    def assert_ahead(self, one, other):
        self.assertIs(ahead(one, other), True)
        self.assertIs(ahead(other, one), False)

    def test_by_the_lesser_stamp(self):
        self.assert_ahead(add("bob", 1), add("ann", 2))
        self.assert_ahead(add("bob", 5), add("ann", 1, bob=9))
        self.assert_ahead(add("ann", 9, bob=1), add("ann", 2, bob=10))

    def test_by_the_lesser_hand_where_stamps_are_alike(self):
        self.assert_ahead(add("ann", 3), add("bob", 1, ann=2))
        self.assert_ahead(add("ann", 3), add("anna", 3))
        self.assert_ahead(add("az", 2), add("b", 2))
        self.assert_ahead(add("anm", 2), add("ann", 2))

    def test_by_the_lesser_n_where_hands_are_alike_too(self):
        self.assert_ahead(add("ann", 2, bob=2), add("ann", 4))
        self.assert_ahead(add("ann", 9, bob=4), add("ann", 10, bob=3))

    def test_no_deed_is_ahead_of_itself(self):
        for one in [add("ann", 1), back("ann", 5, 1, 4, bob=2), settle("bob", BIG)]:
            self.assertIs(ahead(one, one), False)
            self.assertIs(ahead(one, copy.deepcopy(one)), False)

    def test_acts_do_not_matter(self):
        self.assert_ahead(settle("ann", 2), add("bob", 2))
        self.assert_ahead(add("ann", 2), settle("bob", 2))
        self.assertIs(ahead(add("ann", 2), settle("ann", 2)), False)

    def test_what_an_honest_deed_has_seen_is_ahead_of_it(self):
        first, second = add("zoe", 1), add("zoe", 2)
        for late in [add("ann", 1, zoe=2), add("ann", 2, zoe=2)]:
            self.assert_ahead(first, late)
            self.assert_ahead(second, late)

    def test_twelve_figures(self):
        self.assert_ahead(add("bob", BIG - 1), add("ann", BIG))
        self.assert_ahead(add("ann", BIG - 1, bob=2), add("ann", BIG, bob=1))

    def test_of_two_unlike_names_just_one_is_ahead(self):
        for seed in range(8):
            for one, other in itertools.combinations(some_list(seed), 2):
                if one[0] != other[0]:
                    self.assertNotEqual(ahead(one, other), ahead(other, one))


class TestInOrder(unittest.TestCase):

    # Stamps 1, 2, four times 3, twice 13, 14.
    ordered = [
        add("bob", 1),
        add("ann", 2),
        back("ann", 1, 1, 1, bob=2),
        add("ann", 3),
        settle("anna", 3),
        add("bob", 2, ann=1),
        add("ann", 9, bob=4),
        add("ann", 10, bob=3),
        add("ann", 4, bob=10),
    ]

    def test_the_empty_list(self):
        self.assertEqual(in_order([]), [])
        self.assertIs(type(in_order([])), list)

    def test_one_deed(self):
        self.assertEqual(in_order([add("ann", 1)]), [add("ann", 1)])

    def test_lists_turned_about(self):
        self.assertEqual(in_order(self.ordered), self.ordered)
        self.assertEqual(in_order(self.ordered[::-1]), self.ordered)
        for turn in range(len(self.ordered)):
            self.assertEqual(in_order(self.ordered[turn:] + self.ordered[:turn]), self.ordered)

    def test_lists_told_twice_over(self):
        self.assertEqual(in_order(self.ordered + self.ordered), self.ordered)
        self.assertEqual(in_order(self.ordered[::-1] + self.ordered), self.ordered)
        self.assertEqual(in_order([add("ann", 1)] * 3), [add("ann", 1)])

    def test_each_way_of_a_short_list(self):
        short = [add("bob", 1), add("ann", 2), add("ann", 3), add("bob", 2, ann=1), add("bob", 3)]
        for way in itertools.permutations(short):
            self.assertEqual(in_order(list(way)), short)

    def test_some_lists(self):
        for seed in range(60):
            handed = some_list(seed)
            told = in_order(handed)
            self.assertEqual(set(told), set(handed))
            self.assertEqual(len(names(told)), len(set(names(handed))))
            for one, other in zip(told, told[1:]):
                self.assertIs(ahead(one, other), True)

    def test_two_hundred_deeds(self):
        made = [add(hand, n) for n in range(1, 51) for hand in ["ann", "bob", "cyd", "dan"]]
        shuffled = made[:]
        random.Random(1).shuffle(shuffled)
        self.assertEqual(in_order(shuffled), made)

    def test_numbers_up_to_the_bounds(self):
        made = [
            deed("ann", BIG - 1, ("add", ("ann", BIG), GREAT_AMOUNT)),
            deed("ann", BIG, ("add", ("ann", BIG), -GREAT_AMOUNT)),
            deed("bob", BIG, ("back", 1, BIG)),
            deed("ann", 1, ("settle",), bob=BIG, cyd=BIG),
        ]
        self.assertEqual(in_order(made[::-1]), made)

    def test_the_list_handed_in_stays(self):
        handed = self.ordered[::-1] + self.ordered[:2]
        before = copy.deepcopy(handed)
        told = in_order(handed)
        self.assertEqual(handed, before)
        told.clear()
        self.assertEqual(handed, before)
        self.assertEqual(in_order(handed), self.ordered)

    def test_what_is_told_is_new_though_the_list_was_in_order(self):
        handed = list(self.ordered)
        told = in_order(handed)
        told.append(add("zoe", 1))
        self.assertEqual(handed, self.ordered)
        handed.clear()
        self.assertEqual(told, self.ordered + [add("zoe", 1)])


if __name__ == "__main__":
    unittest.main()
