"""Points 11 to 14 for counts, choices and bags, and points 2 and 3 as far as they go."""

import copy
import random
import unittest

from copymeet.leaves import Bag, Choice, Count, Leaf
from tests.helpers import ACTS, BIG, COUNT, GREAT_AMOUNT, add_of, covers_by_words, deed

THING = ("zoe", 7)


def heard(leaf, deeds):
    for one in deeds:
        leaf.hear(one)
    return leaf


def choose(hand, n, number, **others):
    return deed(hand, n, ("choose", THING, number), **others)


def put(hand, n, number, **others):
    return deed(hand, n, ("put", THING, number), **others)


def take(hand, n, number, **others):
    return deed(hand, n, ("take", THING, number), **others)


def some_deeds(chance, words):
    """Deeds with seens of any sort; the names are all unlike, in no order."""
    all_names = [(hand, n) for hand in ["ann", "bob", "cyd"] for n in range(1, 9)]
    chance.shuffle(all_names)
    made = []
    for hand, n in all_names[:chance.randint(1, 20)]:
        others = {other: chance.randint(1, 8) for other in ["ann", "bob", "cyd"]
                  if other != hand and chance.random() < 0.5}
        made.append(deed(hand, n, (chance.choice(words), THING, chance.randint(-1, 2)), **others))
    return made


class TestLeaf(unittest.TestCase):

    def test_tells_none_whatever_it_hears(self):
        leaf = Leaf()
        self.assertIsNone(leaf.told())
        self.assertIsNone(leaf.content())
        for act in ACTS:
            leaf.hear(deed("ann", 2, act))
            self.assertIsNone(leaf.told())
            self.assertIsNone(leaf.content())

    def test_tells_none_whatever_it_is_filled_with(self):
        leaf = Leaf()
        for content in [None, 5, [], [(("ann", 1), 3)], ([], [])]:
            leaf.fill(content)
            self.assertIsNone(leaf.told())
            self.assertIsNone(leaf.content())

    def test_the_others_stand_under_it(self):
        for kind in [Count, Choice, Bag]:
            self.assertTrue(issubclass(kind, Leaf))
            self.assertIsInstance(kind(), Leaf)
        self.assertFalse(issubclass(Choice, Bag) or issubclass(Bag, Choice))


class TestCount(unittest.TestCase):

    def test_ahead_of_all_and_behind_each_add(self):
        count = Count()
        self.assertEqual((count.told(), count.content()), (0, 0))
        total = 0
        for n, amount in enumerate([5, -8, 0, 10 ** 12, -3], start=1):
            count.hear(deed("ann", n, add_of(amount)))
            total += amount
            self.assertEqual((count.told(), count.content()), (total, total))

    def test_amounts_of_forty_figures(self):
        count = Count()
        for n in range(1, 101):
            count.hear(deed("ann", n, add_of(GREAT_AMOUNT)))
        self.assertEqual(count.told(), 100 * GREAT_AMOUNT)
        for n in range(101, 301):
            count.hear(deed("ann", n, add_of(-GREAT_AMOUNT)))
        self.assertEqual(count.told(), -100 * GREAT_AMOUNT)

    def test_the_thing_the_name_and_the_seen_are_not_looked_at(self):
        count = Count()
        for one in [deed("bob", BIG, add_of(1, ("zoe", 4)), ann=BIG), deed("ann", 1, add_of(2, ("", 0))),
                    deed("bob", 3, add_of(4, ("bob", 3)), cyd=1)]:
            count.hear(one)
        self.assertEqual(count.told(), 7)

    def test_unknown_acts_change_nothing(self):
        for act in ACTS:
            count = heard(Count(), [deed("ann", 1, add_of(9)), deed("ann", 2, act)])
            self.assertEqual(count.told(), 12 if act[0] == "add" else 9, act)

    def test_filled_goes_on_from_there(self):
        for content in [0, -4, GREAT_AMOUNT, 10 ** 60]:
            count = heard(Count(), [deed("ann", 1, add_of(9))])
            count.fill(content)
            self.assertEqual((count.told(), count.content()), (content, content))
            count.hear(deed("ann", 2, add_of(-2)))
            self.assertEqual(count.told(), content - 2)

    def test_two_counts_keep_apart(self):
        one, other = Count(), Count()
        one.hear(deed("ann", 1, add_of(9)))
        self.assertEqual((one.told(), other.told()), (9, 0))


class TestChoice(unittest.TestCase):

    def test_ahead_of_all(self):
        self.assertEqual((Choice().told(), Choice().content()), ([], []))

    def test_one_hand_leaves_just_its_last(self):
        choice = heard(Choice(), [choose("ann", n, 10 * n) for n in [1, 2, 3]])
        self.assertEqual(choice.content(), [(("ann", 3), 30)])
        self.assertEqual(choice.told(), [30])

    def test_several_beside_one_another(self):
        choice = heard(Choice(), [choose("bob", 1, 7), choose("ann", 1, 9), choose("cyd", 1, 7)])
        self.assertEqual(choice.content(), [(("bob", 1), 7), (("ann", 1), 9), (("cyd", 1), 7)])
        self.assertEqual(choice.told(), [7, 9])

    def test_just_the_rows_that_its_seen_covers_go(self):
        choice = heard(Choice(), [choose("bob", 1, 7), choose("ann", 1, 9), choose("cyd", 2, 8)])
        choice.hear(choose("dan", 1, 5, bob=1, cyd=1))
        self.assertEqual(choice.content(), [(("ann", 1), 9), (("cyd", 2), 8), (("dan", 1), 5)])
        self.assertEqual(choice.told(), [5, 8, 9])

    def test_the_next_one_who_has_seen_them_all_leaves_just_its_own(self):
        choice = heard(Choice(), [choose("bob", 1, 7), choose("ann", 1, 9), choose("cyd", 2, 8)])
        choice.hear(choose("bob", 2, 6, ann=1, cyd=2))
        self.assertEqual(choice.content(), [(("bob", 2), 6)])

    def test_the_same_number_again_is_the_last_row(self):
        choice = heard(Choice(), [choose("ann", 1, 7), choose("bob", 1, 8), choose("ann", 2, 7)])
        self.assertEqual(choice.content(), [(("bob", 1), 8), (("ann", 2), 7)])

    def test_a_seen_covers_names_and_not_numbers(self):
        choice = heard(Choice(), [choose("ann", 4, 1), choose("bob", 1, 9)])
        choice.hear(choose("cyd", 1, 2, ann=3, bob=5))
        self.assertEqual(choice.content(), [(("ann", 4), 1), (("cyd", 1), 2)])

    def test_one_heard_behind_a_choose_that_has_seen_it_stays(self):
        choice = heard(Choice(), [choose("bob", 1, 7, ann=1), choose("ann", 1, 9)])
        self.assertEqual(choice.content(), [(("bob", 1), 7), (("ann", 1), 9)])

    def test_told_rises_and_content_stays_as_it_came(self):
        rows = [(("ann", 1), 10), (("bob", 1), 9), (("cyd", 1), -GREAT_AMOUNT), (("dan", 1), 9),
                (("eve", 1), GREAT_AMOUNT), (("fay", 1), 0)]
        choice = heard(Choice(), [choose(name[0], 1, number) for name, number in rows])
        self.assertEqual(choice.content(), rows)
        self.assertEqual(choice.told(), [-GREAT_AMOUNT, 0, 9, 10, GREAT_AMOUNT])

    def test_unknown_acts_change_nothing(self):
        for act in ACTS:
            choice = heard(Choice(), [choose("ann", 1, 9), deed("ann", 2, act)])
            rows = [(("ann", 2), 3)] if act[0] == "choose" else [(("ann", 1), 9)]
            self.assertEqual(choice.content(), rows, act)

    def test_things_are_not_looked_at(self):
        choice = heard(Choice(), [deed("ann", 1, ("choose", COUNT, 4)), deed("ann", 2, ("choose", ("", 0), 5))])
        self.assertEqual(choice.content(), [(("ann", 2), 5)])

    def test_by_the_words(self):
        chance = random.Random(12)
        sizes = set()
        for turn in range(300):
            choice, rows = Choice(), []
            for one in some_deeds(chance, ["choose"]):
                choice.hear(one)
                rows = [row for row in rows if not covers_by_words(one[1], row[0])] + [(one[0], one[2][2])]
                self.assertEqual(choice.content(), rows)
                self.assertEqual(choice.told(), sorted({number for name, number in rows}))
                sizes.add(len(rows))
        self.assertTrue({1, 2, 3, 4} <= sizes)


class TestBag(unittest.TestCase):

    def test_ahead_of_all(self):
        self.assertEqual((Bag().told(), Bag().content()), ([], []))

    def test_puts_come_last(self):
        bag = heard(Bag(), [put("bob", 1, 7), put("ann", 1, 9), put("bob", 2, 7), put("ann", 2, -1)])
        rows = [(("bob", 1), 7), (("ann", 1), 9), (("bob", 2), 7), (("ann", 2), -1)]
        self.assertEqual(bag.content(), rows)
        self.assertEqual(bag.told(), [-1, 7, 9])

    def test_a_put_takes_nothing_away(self):
        bag = heard(Bag(), [put("ann", 1, 7), put("ann", 2, 7), put("bob", 1, 7, ann=2)])
        self.assertEqual(len(bag.content()), 3)
        self.assertEqual(bag.told(), [7])

    def test_a_take_takes_just_its_number(self):
        bag = heard(Bag(), [put("ann", 1, 7), put("ann", 2, 8), put("ann", 3, 7), put("ann", 4, 77)])
        bag.hear(take("ann", 5, 7))
        self.assertEqual(bag.content(), [(("ann", 2), 8), (("ann", 4), 77)])

    def test_a_take_takes_just_what_its_seen_covers(self):
        bag = heard(Bag(), [put("ann", 1, 7), put("bob", 1, 7), put("ann", 2, 7), put("cyd", 1, 7)])
        bag.hear(take("dan", 1, 7, ann=1, cyd=4))
        self.assertEqual(bag.content(), [(("bob", 1), 7), (("ann", 2), 7)])
        self.assertEqual(bag.told(), [7])

    def test_a_put_heard_behind_the_take_stays(self):
        bag = heard(Bag(), [take("bob", 1, 7, ann=4), put("ann", 1, 7)])
        self.assertEqual(bag.content(), [(("ann", 1), 7)])

    def test_a_take_puts_nothing(self):
        bag = heard(Bag(), [take("ann", 1, 7), put("ann", 2, 8), take("ann", 3, 9)])
        self.assertEqual(bag.content(), [(("ann", 2), 8)])

    def test_amounts_of_forty_figures(self):
        bag = heard(Bag(), [put("ann", 1, GREAT_AMOUNT), put("ann", 2, -GREAT_AMOUNT)])
        self.assertEqual(bag.told(), [-GREAT_AMOUNT, GREAT_AMOUNT])
        bag.hear(take("ann", 3, GREAT_AMOUNT))
        self.assertEqual(bag.told(), [-GREAT_AMOUNT])

    def test_unknown_acts_change_nothing(self):
        for act in ACTS:
            bag = heard(Bag(), [put("ann", 1, 3), deed("ann", 2, act)])
            rows = {"put": [(("ann", 1), 3), (("ann", 2), 3)], "take": []}.get(act[0], [(("ann", 1), 3)])
            self.assertEqual(bag.content(), rows, act)

    def test_things_are_not_looked_at(self):
        bag = heard(Bag(), [deed("ann", 1, ("put", COUNT, 4)), deed("ann", 2, ("take", ("", 0), 4))])
        self.assertEqual(bag.content(), [])

    def test_by_the_words(self):
        chance = random.Random(13)
        taken = 0
        for turn in range(300):
            bag, rows = Bag(), []
            for one in some_deeds(chance, ["put", "put", "take"]):
                bag.hear(one)
                number = one[2][2]
                if one[2][0] == "put":
                    rows = rows + [(one[0], number)]
                else:
                    left = [row for row in rows if not (row[1] == number and covers_by_words(one[1], row[0]))]
                    taken += len(rows) - len(left)
                    rows = left
                self.assertEqual(bag.content(), rows)
                self.assertEqual(bag.told(), sorted({row[1] for row in rows}))
        self.assertGreater(taken, 100)


class TestFilled(unittest.TestCase):

    def test_goes_on_as_one_that_came_there_by_hearing(self):
        chance = random.Random(14)
        for kind, words in [(Choice, ["choose"]), (Bag, ["put", "put", "take"])]:
            for turn in range(150):
                deeds = some_deeds(chance, words)
                cut = chance.randint(0, len(deeds))
                one = heard(kind(), deeds[:cut])
                # The other kept something else ahead of it.
                other = heard(kind(), deeds[cut:] + [put("eve", 1, 5), choose("eve", 2, 6)])
                other.fill(one.content())
                self.assertEqual((other.content(), other.told()), (one.content(), one.told()))
                for late in deeds[cut:]:
                    one.hear(late)
                    other.hear(late)
                    self.assertEqual((other.content(), other.told()), (one.content(), one.told()))

    def test_filled_with_nothing(self):
        for leaf in [heard(Choice(), [choose("ann", 1, 5)]), heard(Bag(), [put("ann", 1, 5)])]:
            leaf.fill([])
            self.assertEqual((leaf.content(), leaf.told()), ([], []))

    def test_rows_in_any_order_stay_so(self):
        rows = [(("bob", 2), 9), (("ann", 1), 3), (("bob", 1), 9)]
        for leaf in [Choice(), Bag()]:
            leaf.fill(rows)
            self.assertEqual(leaf.content(), rows)
            self.assertEqual(leaf.told(), [3, 9])


class TestTheAskersOwn(unittest.TestCase):

    def leaves(self):
        return [heard(Choice(), [choose("ann", 1, 5), choose("bob", 1, 4)]),
                heard(Bag(), [put("ann", 1, 5), put("bob", 1, 4)])]

    def test_what_is_told_may_be_changed(self):
        rows = [(("ann", 1), 5), (("bob", 1), 4)]
        for leaf in self.leaves():
            leaf.told().append(9)
            leaf.content().clear()
            self.assertEqual((leaf.told(), leaf.content()), ([4, 5], rows))

    def test_what_was_told_stays_when_the_leaf_goes_on(self):
        for leaf in self.leaves():
            told, content = leaf.told(), leaf.content()
            for late in [choose("cyd", 1, 8, ann=1, bob=1), take("cyd", 2, 5, ann=1), put("cyd", 3, 1)]:
                leaf.hear(late)
            self.assertEqual((told, content), ([4, 5], [(("ann", 1), 5), (("bob", 1), 4)]))

    def test_the_list_handed_in_stays_and_may_be_changed(self):
        rows = [(("ann", 1), 5), (("bob", 1), 4)]
        for leaf in [Choice(), Bag()]:
            handed = copy.deepcopy(rows)
            leaf.fill(handed)
            for late in [choose("cyd", 1, 8, ann=1), put("cyd", 2, 1), take("cyd", 3, 5, ann=1)]:
                leaf.hear(late)
            self.assertEqual(handed, rows)
            leaf.fill(handed)
            handed.clear()
            self.assertEqual(leaf.content(), rows)

    def test_kinds_of_what_is_told(self):
        for leaf in self.leaves():
            self.assertIs(type(leaf.told()), list)
            self.assertIs(type(leaf.content()), list)
            for row in leaf.content():
                self.assertEqual([type(row), type(row[0]), type(row[1])], [tuple, tuple, int])


if __name__ == "__main__":
    unittest.main()
