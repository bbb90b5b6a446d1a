"""Points 34 to 36, and points 2 and 3 as far as sweeping goes."""

import unittest

from copymeet.deeds import covers
from copymeet.force import in_force
from copymeet.sweep import bound, known, settled, sunk
from tests.helpers import (
    History, add, back, bound_by_words, deed, knows_by_words, names, settle, settled_by_words, shuffled, stamp_by_words,
    sunk_by_words)

BOTH = ["ann", "bob"]


def some_settling_history(seed, rounds=4):
    """Rounds of work apart; behind each some hands hear of everything, and some of them settle."""
    hands = ["ann", "bob", "cyd"][:2 + seed % 2]
    history = History(seed, hands, settling=0.03)
    for turn in range(rounds):
        history.go_on(8)
        for hand in hands:
            if history.chance.random() < 0.8:
                history.learn_all(hand)
            if history.chance.random() < 0.8:
                history.do(hand, ("settle",))
    return hands, list(history.deeds.values())


class TestKnown(unittest.TestCase):

    def test_of_a_hand_without_a_deed(self):
        self.assertEqual(known("ann", []), ())
        self.assertEqual(known("ann", [add("bob", 1), add("anna", 1)]), ())

    def test_the_seen_of_the_last_deed_and_that_deed(self):
        deeds = [add("bob", 1), add("bob", 2), add("ann", 1), add("ann", 2, bob=1), add("ann", 3, bob=1)]
        self.assertEqual(known("ann", deeds), (("ann", 3), ("bob", 1)))
        self.assertEqual(known("bob", deeds), (("bob", 2),))
        self.assertEqual(known("ann", deeds[:3]), (("ann", 1),))

    def test_the_greatest_number_wherever_it_stands(self):
        deeds = [add("ann", n) for n in range(1, 12)] + [add("bob", 1, ann=9)]
        for handed in [deeds, deeds[::-1], deeds[4:] + deeds[:6], shuffled(1, deeds)]:
            self.assertEqual(known("ann", handed), (("ann", 11),))
            self.assertEqual(known("bob", handed), (("ann", 9), ("bob", 1)))

    def test_hands_rise(self):
        self.assertEqual(known("mia", [deed("mia", 1, ("settle",), zoe=4, ann=2)]),
                         (("ann", 2), ("mia", 1), ("zoe", 4)))

    def test_a_deed_taken_back_counts_too(self):
        deeds = [add("bob", 1), add("ann", 1), add("ann", 2, bob=1), back("ann", 3, 2, 2, bob=1)]
        self.assertEqual(known("ann", deeds), (("ann", 3), ("bob", 1)))


class TestBound(unittest.TestCase):

    def test_without_a_settle_of_each_hand(self):
        self.assertEqual(bound(BOTH, []), 0)
        self.assertEqual(bound(BOTH, [add("ann", 1), add("bob", 1)]), 0)
        self.assertEqual(bound(BOTH, [settle("ann", 1), add("bob", 1)]), 0)
        self.assertEqual(bound(["ann", "bob", "cyd"], [settle("ann", 1), settle("bob", 1)]), 0)

    def test_the_least_stamp_among_the_last_settles(self):
        deeds = [settle("ann", 1), settle("bob", 1), add("ann", 2), settle("ann", 3, bob=1), settle("bob", 2)]
        self.assertEqual(bound(BOTH, deeds[:2]), 1)
        self.assertEqual(bound(BOTH, deeds[:4]), 1)
        self.assertEqual(bound(BOTH, deeds), 2)
        self.assertEqual(bound(BOTH, deeds + [settle("bob", 3, ann=3)]), 4)
        self.assertEqual(bound(["ann"], deeds), 4)

    def test_in_any_order_and_told_twice(self):
        deeds = [settle("ann", 1), settle("ann", 2), settle("bob", 1, ann=1), settle("bob", 2, ann=1)]
        for handed in [deeds, deeds[::-1], shuffled(2, deeds)]:
            self.assertEqual(bound(BOTH, handed), 2)
            self.assertEqual(bound(BOTH[::-1], handed), 2)

    def test_a_settle_that_a_back_names_counts(self):
        self.assertEqual(bound(["ann"], [settle("ann", 1), back("ann", 2, 1, 1)]), 1)

    def test_deeds_that_are_no_settles_do_not_count(self):
        deeds = [settle("ann", 1), add("ann", 2), back("ann", 3, 2, 2), add("ann", 4)]
        self.assertEqual(bound(["ann"], deeds), 1)


class TestSunk(unittest.TestCase):

    def test_without_a_bound(self):
        deeds = [add("ann", 1), add("bob", 1, ann=1), add("ann", 2, bob=1), settle("ann", 3, bob=1)]
        self.assertEqual(sunk(BOTH, deeds), [])
        self.assertEqual(settled(BOTH, deeds), [])
        self.assertEqual(sunk(BOTH, []), [])

    def test_up_to_the_bound_and_known_by_each(self):
        deeds = [add("ann", 1), add("bob", 1), settle("ann", 2, bob=1), settle("bob", 2, ann=2)]
        # The bound is 3; ann is not known to have seen bob.2, that stands at 4.
        self.assertEqual(bound(BOTH, deeds), 3)
        self.assertEqual(sunk(BOTH, deeds), [("ann", 1), ("bob", 1), ("ann", 2)])
        later = deeds + [add("ann", 3, bob=2)]
        self.assertEqual(sunk(BOTH, later), [("ann", 1), ("bob", 1), ("ann", 2)])

    def test_up_to_the_bound_but_not_known_by_all(self):
        deeds = [add("ann", 1), add("bob", 1), settle("ann", 2), settle("bob", 2, ann=1)]
        self.assertEqual(bound(BOTH, deeds), 2)
        self.assertEqual(sunk(BOTH, deeds), [("ann", 1)])
        self.assertEqual(names(settled(BOTH, deeds)), [("ann", 1), ("bob", 1), ("ann", 2)])

    def test_one_hand_alone(self):
        deeds = [add("ann", 1), back("ann", 2, 1, 1), settle("ann", 3), add("ann", 4)]
        self.assertEqual(sunk(["ann"], deeds), [("ann", 1), ("ann", 2), ("ann", 3)])
        self.assertEqual(names(settled(["ann"], deeds)), [("ann", 2), ("ann", 3)])

    def test_a_hand_s_last_deed_may_be_sunk(self):
        deeds = [settle("ann", 1), add("bob", 1, ann=1), settle("bob", 2, ann=1)]
        self.assertEqual(sunk(BOTH, deeds), [("ann", 1)])

    def test_deeds_taken_back_sink_too(self):
        deeds = [add("ann", 1), back("ann", 2, 1, 1), settle("ann", 3), settle("bob", 1, ann=3)]
        self.assertEqual(sunk(BOTH, deeds), [("ann", 1), ("ann", 2), ("ann", 3)])
        self.assertEqual(names(settled(BOTH, deeds)), [("ann", 2), ("ann", 3)])

    def test_settled_looks_at_the_whole_list(self):
        # The back is above the bound, but takes back a deed that is not.
        deeds = [add("ann", 1), add("ann", 2), settle("ann", 3)] + [add("ann", n) for n in range(4, 10)]
        deeds += [add("bob", 1), back("bob", 2, 1, 1, ann=9), settle("bob", 3, ann=9)]
        self.assertEqual(bound(BOTH, deeds), 3)
        self.assertEqual(names(settled(BOTH, deeds)), [("ann", 1), ("ann", 2), ("ann", 3)])
        self.assertEqual(sunk(BOTH, deeds), [("ann", 1), ("ann", 2), ("ann", 3)])

    def test_settled_above_a_settle_in_between(self):
        deeds = [add("bob", 1), settle("bob", 2), add("bob", 3), settle("ann", 1, bob=3), settle("bob", 4, ann=1)]
        self.assertEqual(bound(BOTH, deeds), 4)
        self.assertEqual(names(settled(BOTH, deeds)), [("bob", 1), ("bob", 2), ("bob", 3), ("ann", 1)])
        self.assertEqual(sunk(BOTH, deeds), [("bob", 1), ("bob", 2), ("bob", 3), ("ann", 1)])

    def test_in_any_order_and_told_twice(self):
        for seed in range(30):
            hands, deeds = some_settling_history(seed)
            self.assertEqual(sunk(hands, shuffled(seed, deeds)), sunk(hands, deeds))
            self.assertEqual(settled(hands[::-1], shuffled(seed, deeds)), settled(hands, deeds))


class TestByTheWords(unittest.TestCase):

    def test_some_histories(self):
        sizes = []
        for seed in range(100):
            hands, deeds = some_settling_history(seed)
            self.assertEqual(bound(hands, deeds), bound_by_words(hands, deeds))
            for hand in hands:
                for one in deeds:
                    self.assertEqual(covers(known(hand, deeds), one[0]), knows_by_words(hand, deeds, one[0]))
            self.assertEqual(sunk(hands, deeds), sunk_by_words(hands, deeds))
            self.assertEqual(settled(hands, deeds), settled_by_words(hands, deeds))
            sizes.append(len(sunk(hands, deeds)))
        self.assertGreater(len([size for size in sizes if size > 5]), 30)

    def test_longer_lists(self):
        compared = 0
        for seed in range(50):
            hands, deeds = some_settling_history(seed)
            for size in range(0, len(deeds), 3):
                short, longer = deeds[:size], deeds[:size + seed % 17]
                highest = bound(hands, short)
                low = [one for one in longer if stamp_by_words(one) <= highest]
                self.assertEqual([one for one in low if one not in short], [])
                self.assertEqual([one for one in in_force(longer) if one in low], settled(hands, short))
                self.assertGreaterEqual(bound(hands, longer), highest)
                self.assertEqual([name for name in sunk(hands, short) if name not in sunk(hands, longer)], [])
                compared += len(low)
        self.assertGreater(compared, 500)

    def test_the_sunk_deeds_of_a_hand_are_its_first_ones(self):
        for seed in range(60):
            hands, deeds = some_settling_history(seed)
            for hand in hands:
                numbers = sorted(n for other, n in sunk(hands, deeds) if other == hand)
                self.assertEqual(numbers, list(range(1, len(numbers) + 1)))


class TestTheAskersOwn(unittest.TestCase):

    def setUp(self):
        self.hands = ["bob", "ann"]
        self.deeds = [settle("bob", 1, ann=2), settle("ann", 2), add("ann", 1), add("ann", 3, bob=1), add("ann", 1)]

    def test_what_is_handed_in_stays(self):
        hands, deeds = list(self.hands), list(self.deeds)
        known("ann", self.deeds)
        bound(self.hands, self.deeds)
        sunk(self.hands, self.deeds)
        settled(self.hands, self.deeds)
        self.assertEqual((self.hands, self.deeds), (hands, deeds))

    def test_what_is_told_may_be_changed(self):
        gone, firm = sunk(self.hands, self.deeds), settled(self.hands, self.deeds)
        self.assertEqual(gone, [("ann", 1), ("ann", 2)])
        self.assertEqual(names(firm), [("ann", 1), ("ann", 2)])
        gone.clear()
        firm.clear()
        self.assertEqual(sunk(self.hands, self.deeds), [("ann", 1), ("ann", 2)])
        self.assertEqual(names(settled(self.hands, self.deeds)), [("ann", 1), ("ann", 2)])

    def test_kinds_of_what_is_told(self):
        self.assertEqual([type(sunk(self.hands, self.deeds)), type(settled(self.hands, self.deeds))], [list, list])
        self.assertEqual([type(known("ann", self.deeds)), type(bound(self.hands, self.deeds))], [tuple, int])


if __name__ == "__main__":
    unittest.main()
