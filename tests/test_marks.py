"""Points 22 to 24, and points 2 and 3 as far as marks go."""

import copy
import itertools
import random
import unittest

from copymeet.marks import Marks, within
from copymeet.places import places_of
from tests.helpers import (
    chain, clear, mark, marks_by_words, some_places, step, within_by_words, words_by_words, write)

# Five signs of one write, and places before, between and behind them.
A, B, C, D, E = places_of(write("mia", 1, "abcde"))
AHEAD = A + (step(-1, "zoe", 1),)
BETWEEN = C + (step(1, "ann", 2),)
BEHIND = E + (step(1, "ann", 3),)


def heard(deeds):
    """Marks that heard these marks and clears."""
    marks = Marks()
    for one in deeds:
        if one[2][0] == "mark":
            marks.mark(one)
        else:
            marks.clear(one)
    return marks


def some_marks(chance, places):
    """Marks and clears with ends anywhere, all names unlike, seens of any sort."""
    all_names = [(hand, n) for hand in ["ann", "bob", "cyd"] for n in range(1, 7)]
    chance.shuffle(all_names)
    made = []
    for hand, n in all_names[:chance.randint(1, 14)]:
        others = {other: chance.randint(1, 6) for other in ["ann", "bob", "cyd"]
                  if other != hand and chance.random() < 0.6}
        doing = mark if chance.random() < 0.6 else clear
        first, last = chance.choice(places), chance.choice(places)
        made.append(doing(hand, n, first, last, chance.choice(["bold", "red"]), **others))
    return made


class TestWithin(unittest.TestCase):

    def test_ahead_at_between_at_the_other_and_behind(self):
        told = [(AHEAD, False), (A, False), (B, True), (C, True), (BETWEEN, True), (D, True), (E, False),
                (BEHIND, False)]
        for place, expected in told:
            self.assertIs(within(place, B, D), expected, place)

    def test_beside_the_ends(self):
        before_first, behind_last = B + (step(-1, "ann", 9),), D + (step(1, "ann", 9),)
        self.assertIs(within(before_first, B, D), False)
        self.assertIs(within(behind_last, B, D), False)
        self.assertIs(within(B + (step(1, "ann", 9),), B, D), True)
        self.assertIs(within(D + (step(-1, "ann", 9),), B, D), True)

    def test_ends_the_wrong_way_about(self):
        for place in [AHEAD, A, B, C, BETWEEN, D, E, BEHIND]:
            self.assertIs(within(place, D, B), False)

    def test_alike_ends(self):
        self.assertIs(within(C, C, C), True)
        for place in [AHEAD, A, B, BETWEEN, D, E, BEHIND, C + (step(-1, "ann", 1),)]:
            self.assertIs(within(place, C, C), False)

    def test_by_the_words(self):
        places = some_places(random.Random(31), 24)
        for place, first, last in itertools.product(places, places, places):
            self.assertIs(within(place, first, last), within_by_words(place, first, last))

    def test_a_thousand_steps(self):
        deep = chain("ann", 1000)
        self.assertIs(within(deep, deep[:999], deep), True)
        self.assertIs(within(deep, deep[:1], deep[:999]), False)


class TestMarks(unittest.TestCase):

    def test_no_marks_at_first(self):
        self.assertEqual(Marks().rows(), [])
        self.assertEqual(Marks().words_at(A), [])

    def test_one_mark(self):
        marks = heard([mark("ann", 1, B, D)])
        self.assertEqual(marks.rows(), [(("ann", 1), B, D, "bold", [])])
        told = [marks.words_at(place) for place in [AHEAD, A, B, C, BETWEEN, D, E, BEHIND]]
        self.assertEqual(told, [[], [], ["bold"], ["bold"], ["bold"], ["bold"], [], []])

    def test_words_rise_and_each_is_told_once(self):
        marks = heard([mark("ann", 1, A, D, "red"), mark("bob", 1, B, E, "bold"), mark("ann", 2, C, E, "red"),
                       mark("cyd", 1, C, C, "a")])
        self.assertEqual([marks.words_at(place) for place in [A, B, C, D, E]],
                         [["red"], ["bold", "red"], ["a", "bold", "red"], ["bold", "red"], ["bold", "red"]])

    def test_rows_stand_in_the_order_in_which_they_were_heard(self):
        deeds = [mark("zoe", 9, A, B, "b"), mark("ann", 1, C, D, "a"), mark("zoe", 2, A, A, "a")]
        self.assertEqual([row[0] for row in heard(deeds).rows()], [("zoe", 9), ("ann", 1), ("zoe", 2)])
        self.assertEqual([row[0] for row in heard(deeds[::-1]).rows()], [("zoe", 2), ("ann", 1), ("zoe", 9)])

    def test_each_mark_is_kept_once(self):
        one = mark("ann", 1, B, D)
        self.assertEqual(heard([one, mark("bob", 1, A, A), one]).rows(),
                         [(("ann", 1), B, D, "bold", []), (("bob", 1), A, A, "bold", [])])

    def test_ends_the_wrong_way_about_and_alike(self):
        marks = heard([mark("ann", 1, D, B), mark("ann", 2, C, C, "red")])
        self.assertEqual(len(marks.rows()), 2)
        self.assertEqual([marks.words_at(place) for place in [B, C, D]], [[], ["red"], []])

    def test_things_are_not_looked_at(self):
        marks = heard([mark("ann", 1, B, D, thing=("", 0)), clear("ann", 2, C, C, thing=("zoe", 5))])
        self.assertEqual(marks.rows(), [(("ann", 1), B, D, "bold", [(C, C)])])

    def test_places_where_no_sign_stands(self):
        marks = heard([mark("ann", 1, AHEAD, BETWEEN)])
        self.assertEqual(marks.words_at(A), ["bold"])
        self.assertEqual(marks.words_at(C + (step(1, "ann", 1),)), ["bold"])
        self.assertEqual(marks.words_at((step(1, "ann", 1),)), [])


class TestClears(unittest.TestCase):

    def test_a_clear_that_has_seen_the_mark(self):
        marks = heard([mark("ann", 1, A, E), clear("bob", 1, B, C, ann=1)])
        self.assertEqual(marks.rows(), [(("ann", 1), A, E, "bold", [(B, C)])])
        self.assertEqual([marks.words_at(place) for place in [A, B, C, BETWEEN, D, E]],
                         [["bold"], [], [], ["bold"], ["bold"], ["bold"]])

    def test_a_clear_that_has_not(self):
        for late in [clear("bob", 1, A, E), clear("bob", 1, A, E, ann=1), clear("bob", 3, A, E)]:
            marks = heard([mark("ann", 2, A, E), late])
            self.assertEqual(marks.rows(), [(("ann", 2), A, E, "bold", [])])
            self.assertEqual(marks.words_at(C), ["bold"])

    def test_a_clear_of_another_word(self):
        marks = heard([mark("ann", 1, A, E), mark("ann", 2, A, E, "red"), clear("ann", 3, A, E, "red")])
        self.assertEqual(marks.words_at(C), ["bold"])
        self.assertEqual([row[4] for row in marks.rows()], [[], [(A, E)]])
        marks.clear(clear("ann", 4, A, E, "boldly"))
        self.assertEqual(marks.words_at(C), ["bold"])

    def test_a_clear_heard_ahead_of_the_mark(self):
        marks = heard([clear("bob", 1, A, E, ann=1), mark("ann", 1, A, E)])
        self.assertEqual(marks.rows(), [(("ann", 1), A, E, "bold", [])])

    def test_of_two_marks_just_the_one_that_it_has_seen(self):
        marks = heard([mark("ann", 1, A, E), mark("cyd", 1, B, C), clear("bob", 1, A, D, ann=1)])
        self.assertEqual([row[4] for row in marks.rows()], [[(A, D)], []])
        self.assertEqual([marks.words_at(place) for place in [A, B, C, D, E]],
                         [[], ["bold"], ["bold"], [], ["bold"]])

    def test_all_marks_of_the_word_that_it_has_seen(self):
        marks = heard([mark("ann", 1, A, B), mark("cyd", 1, B, C), mark("ann", 2, D, E),
                       clear("bob", 1, B, B, ann=2, cyd=1)])
        self.assertEqual([row[4] for row in marks.rows()], [[(B, B)]] * 3)
        self.assertEqual([marks.words_at(place) for place in [A, B, C, D]], [["bold"], [], ["bold"], ["bold"]])

    def test_several_holes_in_the_order_in_which_they_came(self):
        marks = heard([mark("ann", 1, A, E), clear("ann", 2, D, D), clear("zoe", 1, A, A, ann=1),
                       clear("bob", 1, D, E, ann=1)])
        self.assertEqual(marks.rows(), [(("ann", 1), A, E, "bold", [(D, D), (A, A), (D, E)])])
        self.assertEqual([marks.words_at(place) for place in [A, B, C, D, E]], [[], ["bold"], ["bold"], [], []])

    def test_ends_of_a_clear_anywhere(self):
        for first, last in [(E, A), (BEHIND, BEHIND), (AHEAD, AHEAD), (AHEAD, BEHIND), (BETWEEN, BETWEEN)]:
            marks = heard([mark("ann", 1, B, D), clear("ann", 2, first, last)])
            self.assertEqual(marks.rows(), [(("ann", 1), B, D, "bold", [(first, last)])])
            inside = [place for place in [B, C, BETWEEN, D] if not within_by_words(place, first, last)]
            self.assertEqual([place for place in [A, B, C, BETWEEN, D, E] if marks.words_at(place)], inside)

    def test_a_mark_behind_the_clear_bears_again(self):
        marks = heard([mark("ann", 1, A, E), clear("ann", 2, A, E), mark("ann", 3, B, C)])
        self.assertEqual([marks.words_at(place) for place in [A, B, C, D]], [[], ["bold"], ["bold"], []])

    def test_by_the_words(self):
        chance = random.Random(32)
        holes = 0
        for turn in range(150):
            places = some_places(chance, 12)
            deeds = some_marks(chance, places)
            marks, rows = heard(deeds), marks_by_words(deeds)
            self.assertEqual(marks.rows(), rows)
            holes += sum(len(row[4]) for row in rows)
            for place in places:
                self.assertEqual(marks.words_at(place), words_by_words(rows, place))
        self.assertGreater(holes, 100)


class TestFilling(unittest.TestCase):

    def test_in_the_place_of_all_that_was_kept(self):
        marks = heard([mark("ann", 1, A, E, "gone")])
        rows = [(("bob", 2), A, B, "red", [(A, A)]), (("ann", 1), D, D, "bold", [])]
        marks.fill(rows)
        self.assertEqual(marks.rows(), rows)
        self.assertEqual([marks.words_at(place) for place in [A, B, C, D]], [[], ["red"], [], ["bold"]])
        marks.fill([])
        self.assertEqual(marks.rows(), [])

    def test_goes_on_as_the_one_that_told_the_rows(self):
        chance = random.Random(33)
        for turn in range(60):
            deeds = some_marks(chance, [A, B, C, D, E])
            halfway = chance.randint(0, len(deeds))
            one, other = heard(deeds[:halfway]), heard([mark("eve", 1, A, E, "gone"), clear("eve", 2, A, E, "gone")])
            other.fill(one.rows())
            for late in deeds[halfway:]:
                for marks in [one, other]:
                    if late[2][0] == "mark":
                        marks.mark(late)
                    else:
                        marks.clear(late)
            self.assertEqual(other.rows(), one.rows())
            self.assertEqual(other.rows(), marks_by_words(deeds))


class TestTheAskersOwn(unittest.TestCase):

    def setUp(self):
        self.marks = heard([mark("ann", 1, A, E), clear("ann", 2, B, C)])
        self.rows = [(("ann", 1), A, E, "bold", [(B, C)])]

    def test_what_is_told_may_be_changed(self):
        told = self.marks.rows()
        told[0][4].clear()
        told.clear()
        self.marks.words_at(A).clear()
        self.assertEqual(self.marks.rows(), self.rows)
        self.assertEqual((self.marks.words_at(A), self.marks.words_at(B)), (["bold"], []))

    def test_what_was_told_stays(self):
        told, words = self.marks.rows(), self.marks.words_at(A)
        self.marks.clear(clear("ann", 3, A, E))
        self.marks.mark(mark("ann", 4, A, E))
        self.assertEqual((told, words), (self.rows, ["bold"]))

    def test_what_is_handed_in_stays_and_may_be_changed(self):
        handed = copy.deepcopy(self.rows)
        self.marks.fill(handed)
        self.marks.clear(clear("ann", 3, A, E))
        self.marks.mark(mark("ann", 4, A, E))
        self.assertEqual(handed, self.rows)
        self.marks.fill(handed)
        handed[0][4].append((A, E))
        handed.append(handed[0])
        self.assertEqual(self.marks.rows(), self.rows)

    def test_marks_filled_with_what_another_tells_keep_apart(self):
        other = Marks()
        other.fill(self.marks.rows())
        other.clear(clear("ann", 3, A, E))
        self.assertEqual(self.marks.rows(), self.rows)
        self.assertEqual(other.rows()[0][4], [(B, C), (A, E)])

    def test_kinds_of_what_is_told(self):
        row = self.marks.rows()[0]
        self.assertEqual([type(part) for part in row], [tuple, tuple, tuple, str, list])
        self.assertEqual([type(row), type(row[4][0])], [tuple, tuple])
        self.assertIs(type(self.marks.words_at(A)), list)


if __name__ == "__main__":
    unittest.main()
