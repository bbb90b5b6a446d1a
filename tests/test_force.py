"""Points 9 and 10, the sentence of point 4 about a last back, and points 2 and 3 as far as force goes."""

import copy
import random
import unittest

from copymeet.deeds import in_order
from copymeet.force import in_force, taken_by
from tests.helpers import BIG, GREAT_AMOUNT, add, back, deed, names, settle, some_list

FAR = 10 ** 10


def reaches(one, other, deeds):
    """The words of [9], one by one."""
    (hand, n), act = one[0], one[2]
    k = other[0][1]
    if act[0] != "back" or other[0][0] != hand or other[2][0] == "settle":
        return False
    between = [each for each in deeds if each[2][0] == "settle" and each[0][0] == hand and k < each[0][1] < n]
    return act[1] <= k <= act[2] and k < n and not between


def takers_of(one, deeds, known):
    """The numbers of the backs that take the deed back, by the words of [10]."""
    if one[0] not in known:
        reaching = [each for each in deeds if reaches(each, one, deeds)]
        known[one[0]] = [each[0][1] for each in reaching if not takers_of(each, deeds, known)]
    return known[one[0]]


def by_the_words(deeds):
    """What taken_by and in_force have to tell, slowly."""
    known = {}
    ordered = in_order(deeds)
    taken = [one for one in ordered if takers_of(one, deeds, known)]
    rows = [(one[0], (one[0][0], max(known[one[0]]))) for one in taken]
    return rows, [one for one in ordered if one not in taken]


class ForceCase(unittest.TestCase):

    def assert_taken(self, deeds, rows):
        """Whatever way the list is turned, just these rows are taken."""
        gone = [row[0] for row in rows]
        staying = [one for one in in_order(deeds) if one[0] not in gone]
        for handed in [deeds, deeds[::-1], deeds + deeds, deeds[1:] + deeds[:1] + deeds[-1:]]:
            self.assertEqual(taken_by(handed), rows)
            self.assertEqual(in_force(handed), staying)


class TestReach(ForceCase):

    def test_the_empty_list(self):
        self.assertEqual(taken_by([]), [])
        self.assertEqual(in_force([]), [])

    def test_without_a_back_all_is_in_force(self):
        self.assert_taken([add("ann", n) for n in range(1, 5)] + [settle("ann", 5)], [])

    def test_from_the_first_to_the_last_both_in(self):
        deeds = [add("ann", n) for n in range(1, 7)] + [back("ann", 7, 3, 5)]
        by = ("ann", 7)
        self.assert_taken(deeds, [(("ann", 3), by), (("ann", 4), by), (("ann", 5), by)])

    def test_first_and_last_alike(self):
        deeds = [add("ann", n) for n in range(1, 5)] + [back("ann", 5, 2, 2)]
        self.assert_taken(deeds, [(("ann", 2), ("ann", 5))])

    def test_first_above_last_reaches_nothing(self):
        self.assert_taken([add("ann", n) for n in range(1, 5)] + [back("ann", 5, 3, 2)], [])

    def test_last_at_its_own_number_does_not_take_itself(self):
        deeds = [add("ann", 1), add("ann", 2), back("ann", 3, 2, 3), add("ann", 4)]
        self.assert_taken(deeds, [(("ann", 2), ("ann", 3))])

    def test_last_beyond_its_own_number_takes_nothing_later(self):
        deeds = [add("ann", 1), add("ann", 2), back("ann", 3, 2, 9), add("ann", 4), back("ann", 5, 9, 9)]
        self.assert_taken(deeds, [(("ann", 2), ("ann", 3))])

    def test_first_at_or_beyond_its_own_number_reaches_nothing(self):
        deeds = [add("ann", 1), back("ann", 2, 2, 9), back("ann", 3, 4, 4), add("ann", 4), add("ann", 5)]
        self.assert_taken(deeds, [])

    def test_numbers_that_the_list_has_not(self):
        deeds = [add("ann", 2), add("ann", 7), back("ann", 20, 3, 10), add("ann", 30)]
        self.assert_taken(deeds, [(("ann", 7), ("ann", 20))])

    def test_great_gaps(self):
        deeds = [
            add("ann", 1), add("ann", FAR), add("ann", 2 * FAR), add("ann", 2 * FAR + 1),
            back("ann", 50 * FAR, 2, 2 * FAR),
        ]
        by = ("ann", 50 * FAR)
        self.assert_taken(deeds, [(("ann", FAR), by), (("ann", 2 * FAR), by)])

    def test_the_deeds_of_other_hands_are_not_reached(self):
        deeds = [add("ann", 1), add("anna", 1), add("an", 1), add("bnn", 1), back("ann", 2, 1, 1)]
        self.assert_taken(deeds, [(("ann", 1), ("ann", 2))])

    def test_what_a_back_has_seen_does_not_matter(self):
        deeds = [add("bob", 1), add("ann", 1, bob=1), back("ann", 2, 1, 1, bob=7, cyd=3), add("cyd", 1)]
        self.assert_taken(deeds, [(("ann", 1), ("ann", 2))])

    def test_a_back_ahead_of_what_it_reaches(self):
        late = add("ann", 2, bob=9)
        deeds = [add("ann", 1), back("ann", 4, 1, 2), late]
        self.assertEqual(names(in_order(deeds)), [("ann", 1), ("ann", 4), ("ann", 2)])
        self.assert_taken(deeds, [(("ann", 1), ("ann", 4)), (("ann", 2), ("ann", 4))])


class TestSettle(ForceCase):

    def test_a_settle_in_between(self):
        deeds = [add("ann", 1), add("ann", 2), settle("ann", 3), add("ann", 4), back("ann", 5, 1, 4)]
        self.assert_taken(deeds, [(("ann", 4), ("ann", 5))])

    def test_a_settle_itself_is_in_force(self):
        self.assert_taken([settle("ann", 1), back("ann", 2, 1, 1)], [])
        self.assert_taken([settle("ann", 1), settle("ann", 2), back("ann", 3, 1, 2), back("ann", 4, 1, 2)], [])

    def test_a_settle_right_below_the_back(self):
        self.assert_taken([add("ann", 1), settle("ann", 2), back("ann", 3, 1, 1)], [])

    def test_a_settle_right_above_the_back(self):
        deeds = [add("ann", 1), back("ann", 2, 1, 1), settle("ann", 3)]
        self.assert_taken(deeds, [(("ann", 1), ("ann", 2))])

    def test_a_settle_right_below_the_deed(self):
        deeds = [settle("ann", 1), add("ann", 2), back("ann", 3, 1, 2)]
        self.assert_taken(deeds, [(("ann", 2), ("ann", 3))])

    def test_a_settle_keeps_what_was_taken_back_below_it(self):
        deeds = [add("ann", 1), back("ann", 2, 1, 1), settle("ann", 3), back("ann", 4, 1, 3), back("ann", 5, 2, 2)]
        self.assert_taken(deeds, [(("ann", 1), ("ann", 2))])

    def test_a_settle_above_or_below_both_does_not_matter(self):
        deeds = [add("ann", 1), settle("ann", 2), add("ann", 3), back("ann", 4, 1, 3), settle("ann", 5)]
        self.assert_taken(deeds, [(("ann", 3), ("ann", 4))])

    def test_a_settle_of_another_hand_does_not_matter(self):
        deeds = [add("ann", 1), settle("bob", 2), settle("anna", 2), back("ann", 3, 1, 2)]
        self.assert_taken(deeds, [(("ann", 1), ("ann", 3))])

    def test_a_settle_that_the_list_has_not_does_not_matter(self):
        deeds = [add("ann", 1), settle("ann", 2), back("ann", 3, 1, 1)]
        self.assert_taken(deeds, [])
        self.assert_taken([deeds[0], deeds[2]], [(("ann", 1), ("ann", 3))])

    def test_settles_over_great_gaps(self):
        deeds = [add("ann", 1), settle("ann", FAR), add("ann", FAR + 1), back("ann", 9 * FAR, 1, 9 * FAR)]
        self.assert_taken(deeds, [(("ann", FAR + 1), ("ann", 9 * FAR))])


class TestBacksOfBacks(ForceCase):

    def test_a_back_that_is_taken_back(self):
        deeds = [add("ann", 1), back("ann", 2, 1, 1), back("ann", 3, 2, 2)]
        self.assert_taken(deeds, [(("ann", 2), ("ann", 3))])

    def test_and_that_one_again(self):
        deeds = [add("ann", 1), back("ann", 2, 1, 1), back("ann", 3, 2, 2), back("ann", 4, 3, 3)]
        self.assert_taken(deeds, [(("ann", 1), ("ann", 2)), (("ann", 3), ("ann", 4))])

    def test_a_long_row_of_backs(self):
        deeds = [add("ann", 1)] + [back("ann", n, n - 1, n - 1) for n in range(2, 200)]
        rows = [(("ann", n), ("ann", n + 1)) for n in range(2, 199, 2)]
        self.assert_taken(deeds, rows)
        self.assert_taken(deeds[:-1], [(("ann", n), ("ann", n + 1)) for n in range(1, 198, 2)])

    def test_only_what_the_back_alone_took_is_in_force_again(self):
        deeds = [add("ann", 1), add("ann", 2), back("ann", 3, 1, 2), back("ann", 4, 2, 2), back("ann", 5, 3, 3)]
        self.assert_taken(deeds, [(("ann", 2), ("ann", 4)), (("ann", 3), ("ann", 5))])

    def test_a_back_and_what_it_took_taken_by_one(self):
        deeds = [add("ann", 1), back("ann", 2, 1, 1), back("ann", 3, 1, 2)]
        self.assert_taken(deeds, [(("ann", 1), ("ann", 3)), (("ann", 2), ("ann", 3))])

    def test_a_back_that_a_settle_keeps(self):
        deeds = [add("ann", 1), back("ann", 2, 1, 1), settle("ann", 3), back("ann", 4, 2, 2)]
        self.assert_taken(deeds, [(("ann", 1), ("ann", 2))])


class TestNamed(ForceCase):

    def test_the_greatest_of_several_backs_in_force(self):
        deeds = [add("ann", 1), back("ann", 2, 1, 1), back("ann", 3, 1, 1), back("ann", 4, 1, 1)]
        self.assert_taken(deeds, [(("ann", 1), ("ann", 4))])

    def test_not_one_that_is_taken_back(self):
        deeds = [add("ann", 1), back("ann", 2, 1, 1), back("ann", 3, 1, 1), back("ann", 4, 3, 3)]
        self.assert_taken(deeds, [(("ann", 1), ("ann", 2)), (("ann", 3), ("ann", 4))])

    def test_not_one_that_does_not_reach_it(self):
        deeds = [add("ann", 1), add("ann", 2), back("ann", 3, 1, 2), back("ann", 4, 2, 2)]
        self.assert_taken(deeds, [(("ann", 1), ("ann", 3)), (("ann", 2), ("ann", 4))])

    def test_not_one_beyond_a_settle(self):
        deeds = [add("ann", 1), back("ann", 2, 1, 1), settle("ann", 3), back("ann", 4, 1, 1)]
        self.assert_taken(deeds, [(("ann", 1), ("ann", 2))])

    def test_greatest_by_n_and_not_by_the_order(self):
        deeds = [add("ann", 1), back("ann", 9, 1, 1, bob=9), back("ann", 10, 1, 1)]
        self.assertEqual(names(in_order(deeds)), [("ann", 1), ("ann", 10), ("ann", 9)])
        self.assert_taken(deeds, [(("ann", 1), ("ann", 10))])


class TestHands(ForceCase):

    def test_each_hand_by_itself(self):
        deeds = [
            add("ann", 1), add("bob", 1), add("cyd", 1),
            back("ann", 2, 1, 1), back("bob", 2, 1, 9), settle("cyd", 2),
            back("ann", 3, 2, 2), add("bob", 3), back("cyd", 3, 1, 2),
        ]
        self.assert_taken(deeds, [(("bob", 1), ("bob", 2)), (("ann", 2), ("ann", 3))])

    def test_rows_are_in_the_order_of_the_deeds_taken(self):
        deeds = [
            add("ann", 1, bob=9), add("bob", 1), add("bob", 2),
            back("ann", 2, 1, 1), back("bob", 3, 1, 2),
        ]
        rows = [(("bob", 1), ("bob", 3)), (("bob", 2), ("bob", 3)), (("ann", 1), ("ann", 2))]
        self.assert_taken(deeds, rows)

    def test_six_hands(self):
        hands = ["a", "an", "ann", "anna", "annaa", "b"]
        deeds = [add(hand, n) for n in [1, 2] for hand in hands]
        deeds += [back(hand, 3, 1, 1) for hand in hands[::2]] + [settle(hand, 3) for hand in hands[1::2]]
        self.assert_taken(deeds, [((hand, 1), (hand, 3)) for hand in hands[::2]])


class TestBounds(ForceCase):

    def test_twelve_figures_and_forty(self):
        deeds = [
            deed("ann", BIG - 3, ("add", ("bob", BIG), GREAT_AMOUNT)),
            deed("ann", BIG - 2, ("add", ("bob", BIG), -GREAT_AMOUNT), bob=BIG),
            deed("ann", BIG - 1, ("add", ("bob", BIG), GREAT_AMOUNT), bob=BIG, cyd=BIG),
            back("ann", BIG, BIG - 2, BIG),
        ]
        by = ("ann", BIG)
        self.assert_taken(deeds, [(("ann", BIG - 2), by), (("ann", BIG - 1), by)])

    def test_a_back_from_1_to_twelve_figures(self):
        deeds = [add("ann", 1), add("ann", BIG - 1), back("ann", BIG, 1, BIG)]
        self.assert_taken(deeds, [(("ann", 1), ("ann", BIG)), (("ann", BIG - 1), ("ann", BIG))])

    def test_two_hundred_deeds(self):
        deeds = []
        for hand in ["ann", "bob", "cyd", "dan"]:
            deeds += [add(hand, n) for n in range(1, 26)] + [back(hand, n, n - 25, n - 25) for n in range(26, 51)]
        random.Random(3).shuffle(deeds)
        self.assertEqual(len(in_force(deeds)), 100)
        self.assertEqual(len(taken_by(deeds)), 100)
        self.assertEqual({(by[0], by[1] - name[1]) for name, by in taken_by(deeds)},
                         {(hand, 25) for hand in ["ann", "bob", "cyd", "dan"]})


class TestSomeLists(ForceCase):

    def test_as_the_words_tell(self):
        for seed in range(400):
            deeds = some_list(seed)
            rows, staying = by_the_words(deeds)
            self.assertEqual(taken_by(deeds), rows, seed)
            self.assertEqual(in_force(deeds), staying, seed)

    def test_the_lists_hold_what_they_are_to_try(self):
        rows = [row for seed in range(400) for row in by_the_words(some_list(seed))[0]]
        kinds = [one[2][0] for seed in range(400) for one in some_list(seed)]
        self.assertGreater(len(rows), 1000)
        self.assertEqual(set(kinds), {"add", "back", "settle"})

    def test_the_two_fit_one_another(self):
        for seed in range(150):
            deeds = some_list(seed)
            taken, staying = [row[0] for row in taken_by(deeds)], names(in_force(deeds))
            self.assertEqual(sorted(taken + staying), sorted(set(names(deeds))))
            for name, by in taken_by(deeds):
                self.assertIn(by, staying)
                self.assertEqual(name[0], by[0])
                self.assertLess(name[1], by[1])

    def test_any_way_about_and_some_told_twice(self):
        for seed in range(100):
            deeds = some_list(seed)
            once = in_order(deeds)
            self.assertEqual(taken_by(deeds), taken_by(once))
            self.assertEqual(in_force(deeds), in_force(once))
            self.assertEqual(taken_by(once[::-1] + once), taken_by(once))
            self.assertEqual(in_force(once[::-1] + once), in_force(once))

    def test_a_last_back_and_what_it_reaches_could_as_well_be_missing(self):
        tried = 0
        for seed in range(300):
            deeds = some_list(seed)
            for hand in sorted({one[0][0] for one in deeds}):
                last = max([one for one in deeds if one[0][0] == hand])
                if last[2][0] != "back":
                    continue
                tried += 1
                rest = [one for one in deeds if one != last and not reaches(last, one, deeds)]
                self.assertEqual(in_force(rest), [one for one in in_force(deeds) if one != last])
                self.assertEqual(taken_by(rest), [row for row in taken_by(deeds) if row[1] != last[0]])
        self.assertGreater(tried, 100)


class TestTheAskersOwn(unittest.TestCase):

    def setUp(self):
        self.deeds = [back("ann", 3, 1, 1), add("ann", 1), add("ann", 2), add("ann", 1), add("bob", 1)]

    def test_what_is_handed_in_stays(self):
        before = copy.deepcopy(self.deeds)
        taken_by(self.deeds)
        in_force(self.deeds)
        self.assertEqual(self.deeds, before)

    def test_what_is_told_may_be_changed(self):
        rows, staying = taken_by(self.deeds), in_force(self.deeds)
        self.assertEqual(rows, [(("ann", 1), ("ann", 3))])
        self.assertEqual(names(staying), [("bob", 1), ("ann", 2), ("ann", 3)])
        rows.clear()
        staying.clear()
        self.assertEqual(taken_by(self.deeds), [(("ann", 1), ("ann", 3))])
        self.assertEqual(names(in_force(self.deeds)), [("bob", 1), ("ann", 2), ("ann", 3)])

    def test_a_list_told_is_new_though_all_is_in_force(self):
        deeds = [add("ann", 1), add("ann", 2)]
        staying = in_force(deeds)
        staying.append(add("ann", 3))
        self.assertEqual(deeds, [add("ann", 1), add("ann", 2)])

    def test_lists_of_tuples(self):
        self.assertIs(type(taken_by(self.deeds)), list)
        self.assertIs(type(in_force(self.deeds)), list)
        for row in taken_by(self.deeds):
            self.assertEqual([type(row), type(row[0]), type(row[1])], [tuple, tuple, tuple])

    def test_a_list_changed_between_two_askings(self):
        in_force(self.deeds)
        self.deeds.append(back("ann", 4, 3, 3))
        self.assertEqual(taken_by(self.deeds), [(("ann", 3), ("ann", 4))])
        self.assertEqual(names(in_force(self.deeds)), [("ann", 1), ("bob", 1), ("ann", 2), ("ann", 4)])


if __name__ == "__main__":
    unittest.main()
