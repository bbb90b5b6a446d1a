"""Point 33, and points 2 and 3 as far as fates go."""

import copy
import unittest

from copymeet.fates import fates
from copymeet.force import taken_by
from copymeet.places import places_of
from tests.helpers import (
    ROOT, FoldByWords, add_of, back, clear, covers_by_words, cut, deed, mark, names, ordered_by_words, settle, shuffled,
    some_history, some_list, step, write)

X = ("ann", 1)
STANDS, IDLE = ("stands",), ("idle",)


def make(hand, n, kind="map", holder=ROOT, spot="key", **others):
    return deed(hand, n, ("make", kind, holder, spot), **others)


def move(hand, n, thing, holder=ROOT, spot="key", **others):
    return deed(hand, n, ("move", thing, holder, spot), **others)


def drop(hand, n, thing, **others):
    return deed(hand, n, ("drop", thing), **others)


def number(word, hand, n, amount, **others):
    return deed(hand, n, (word, X, amount), **others)


def about(one):
    """The thing that a deed is about, None for a back and a settle."""
    return one[0] if one[2][0] == "make" else one[2][1] if one[2][0] not in ("back", "settle") else None


def undid(one, other):
    """Whether the other, later one undid the one, by the words of [33]; not for writes."""
    words = (one[2][0], other[2][0])
    if words[0] in ("make", "move", "drop"):
        return words[1] in ("move", "drop")
    seen = covers_by_words(other[1], one[0])
    if words == ("choose", "choose"):
        return seen
    return words == ("put", "take") and seen and one[2][2] == other[2][2]


def undoer(one, later):
    """The name of the first of the later deeds, all of them done, that undid the one, or None."""
    left = places_of(one) if one[2][0] == "write" else []
    for other in later:
        if about(other) != about(one):
            continue
        if one[2][0] == "write":
            left = [place for place in left if not (other[2][0] == "cut" and place in other[2][2])]
            if not left:
                return other[0]
        elif undid(one, other):
            return other[0]
    return None


def fates_by_words(deeds):
    """The words of [33], one by one."""
    taken, told, done = dict(taken_by(deeds)), {}, []
    fold = FoldByWords([])
    for one in ordered_by_words(deeds):
        if one[0] in taken:
            told[one[0]] = ("back", taken[one[0]])
            continue
        outcome = fold.hear(one)
        if outcome == "done":
            told[one[0]] = STANDS
            done.append(one)
        else:
            told[one[0]] = IDLE if outcome == "idle" else ("lost", fold.way_up(one[2][1], one[2][2]))
    for turn, one in enumerate(done):
        by = undoer(one, done[turn + 1:])
        if by is not None:
            told[one[0]] = ("outdone", by)
    return list(told.items())


class FateCase(unittest.TestCase):

    def assert_fates(self, deeds, expected):
        """Expected are the fates in the order."""
        rows = list(zip(names(ordered_by_words(deeds)), expected, strict=True))
        for handed in [deeds, deeds[::-1], shuffled(len(deeds), deeds), deeds + deeds]:
            self.assertEqual(fates(handed), rows)


class TestBackIdleAndStands(FateCase):

    def test_no_deeds(self):
        self.assertEqual(fates([]), [])

    def test_back(self):
        deeds = [make("ann", 1), make("ann", 2), back("ann", 3, 1, 2), back("ann", 4, 2, 2), back("ann", 5, 4, 4)]
        by = ("back", ("ann", 3))
        self.assert_fates(deeds, [by, by, STANDS, ("back", ("ann", 5)), STANDS])

    def test_the_back_of_the_greatest_number_is_named(self):
        deeds = [make("ann", 1), back("ann", 2, 1, 1), back("ann", 3, 1, 1)]
        self.assert_fates(deeds, [("back", ("ann", 3)), STANDS, STANDS])

    def test_backs_and_settles_in_force_stand(self):
        self.assert_fates([back("ann", 1, 1, 1), settle("ann", 2), back("ann", 3, 1, 2)], [STANDS] * 3)

    def test_idle_by_each_act(self):
        place = (step(1, "ann", 1),)
        nothing = ("zoe", 9)
        deeds = [make("ann", 1, holder=nothing), move("ann", 2, nothing), drop("ann", 3, nothing),
                 make("ann", 4, holder=ROOT, spot=((), 1)), move("ann", 5, ROOT), drop("ann", 6, ROOT),
                 deed("ann", 7, add_of(1, nothing)), deed("ann", 8, ("choose", ROOT, 1)),
                 deed("ann", 9, ("put", nothing, 1)), deed("ann", 10, ("take", nothing, 1)),
                 write("ann", 11, "a", thing=nothing), cut("ann", 12, [place], thing=nothing),
                 mark("ann", 13, place, place, thing=ROOT), clear("ann", 14, place, place, thing=nothing)]
        self.assert_fates(deeds, [IDLE] * 14)

    def test_idle_by_another_kind(self):
        deeds = [make("ann", 1, "count"), number("choose", "ann", 2, 1), write("ann", 3, "a", thing=X),
                 make("ann", 4, "map", X), number("add", "ann", 5, 1)]
        self.assert_fates(deeds, [STANDS, IDLE, IDLE, IDLE, STANDS])

    def test_idle_since_the_make_is_taken_back(self):
        deeds = [make("ann", 1, "count"), number("add", "bob", 1, 5, ann=1), move("bob", 2, X, ann=1),
                 back("ann", 2, 1, 1)]
        self.assert_fates(deeds, [("back", ("ann", 2)), STANDS, IDLE, IDLE])

    def test_acts_that_nothing_undoes(self):
        deeds = [make("ann", 1, "count"), number("add", "ann", 2, 5), number("add", "ann", 3, -5)]
        self.assert_fates(deeds, [STANDS] * 3)
        deeds = [make("ann", 1, "bag"), number("take", "ann", 2, 5), number("take", "ann", 3, 5)]
        self.assert_fates(deeds, [STANDS] * 3)
        one = write("ann", 2, "abc", thing=X)
        places = places_of(one)
        deeds = [make("ann", 1, "text"), one, mark("ann", 3, places[0], places[1], thing=X),
                 clear("ann", 4, places[0], places[1], thing=X), cut("ann", 5, places[:1], thing=X),
                 cut("ann", 6, places[:1], thing=X)]
        self.assert_fates(deeds, [STANDS] * 6)


class TestLost(FateCase):

    def test_the_ring(self):
        deeds = [make("ann", 1), make("ann", 2, holder=X), make("ann", 3, holder=("ann", 2)),
                 move("ann", 4, X, ("ann", 3)), move("ann", 5, ("ann", 2), ("ann", 2))]
        self.assert_fates(deeds, [STANDS, STANDS, STANDS, ("lost", [("ann", 3), ("ann", 2), X]),
                                  ("lost", [("ann", 2)])])

    def test_the_ring_right_ahead_of_it(self):
        deeds = [make("ann", 1), make("ann", 2), make("ann", 3), move("ann", 4, ("ann", 2), X),
                 move("ann", 5, X, ("ann", 2)), move("ann", 6, ("ann", 3), X), move("ann", 7, ("ann", 2), ("ann", 3)),
                 move("ann", 8, X, ("ann", 2)), drop("ann", 9, ("ann", 2))]
        self.assert_fates(deeds, [
            STANDS, ("outdone", ("ann", 4)), ("outdone", ("ann", 6)), ("outdone", ("ann", 7)),
            ("lost", [("ann", 2), X]), STANDS, ("outdone", ("ann", 9)), ("lost", [("ann", 2), ("ann", 3), X]), STANDS])

    def test_in_the_bin(self):
        deeds = [make("ann", 1), make("ann", 2, holder=X), drop("ann", 3, X), move("ann", 4, X, ("ann", 2))]
        self.assert_fates(deeds, [("outdone", ("ann", 3)), STANDS, STANDS, ("lost", [("ann", 2), X])])

    def test_two_hands_that_move_into_one_another(self):
        deeds = [make("ann", 1), make("ann", 2), move("ann", 3, X, ("ann", 2)), move("bob", 1, ("ann", 2), X, ann=2)]
        self.assert_fates(deeds, [("outdone", ("ann", 3)), STANDS, STANDS, ("lost", [X, ("ann", 2)])])

    def test_lost_moves_do_not_outdo(self):
        deeds = [make("ann", 1), move("ann", 2, X, ROOT, "b"), move("ann", 3, X, X), drop("ann", 4, X),
                 move("ann", 5, X, X)]
        self.assert_fates(deeds, [("outdone", ("ann", 2)), ("outdone", ("ann", 4)), ("lost", [X]), STANDS,
                                  ("lost", [X])])


class TestOutdone(FateCase):

    def test_make_move_and_drop(self):
        deeds = [make("ann", 1), move("ann", 2, X), move("ann", 3, X), drop("ann", 4, X), drop("ann", 5, X),
                 move("ann", 6, X)]
        self.assert_fates(deeds, [("outdone", ("ann", n)) for n in range(2, 7)] + [STANDS])

    def test_whatever_the_seens_are(self):
        deeds = [make("ann", 1), move("ann", 2, X), move("bob", 1, X, ann=1)]
        self.assert_fates(deeds, [("outdone", ("ann", 2)), ("outdone", ("bob", 1)), STANDS])

    def test_about_the_same_thing(self):
        deeds = [make("ann", 1), make("ann", 2), move("ann", 3, ("ann", 2)), drop("ann", 4, ("ann", 2))]
        self.assert_fates(deeds, [STANDS, ("outdone", ("ann", 3)), ("outdone", ("ann", 4)), STANDS])

    def test_idle_moves_do_not_outdo(self):
        deeds = [make("ann", 1), move("ann", 2, X, ("zoe", 1)), move("ann", 3, X, ROOT, ((), 1))]
        self.assert_fates(deeds, [STANDS, IDLE, IDLE])

    def test_moves_taken_back_do_not_outdo(self):
        deeds = [make("ann", 1), move("ann", 2, X), drop("ann", 3, X), back("ann", 4, 2, 2)]
        self.assert_fates(deeds, [("outdone", ("ann", 3)), ("back", ("ann", 4)), STANDS, STANDS])

    def test_choose(self):
        deeds = [make("ann", 1, "choice"), number("choose", "ann", 2, 7), number("choose", "bob", 1, 7, ann=1),
                 number("choose", "cyd", 1, 8, ann=3), number("choose", "dan", 1, 8, ann=3, bob=1, cyd=1)]
        # The first that has seen bob.1 is dan.1; ann.2 is undone by cyd.1 ahead of that.
        self.assert_fates(deeds, [STANDS, ("outdone", ("cyd", 1)), ("outdone", ("dan", 1)), ("outdone", ("dan", 1)),
                                  STANDS])

    def test_choose_of_a_seen_that_covers_a_later_one(self):
        deeds = [make("ann", 1, "choice"), number("choose", "bob", 1, 7, ann=4), number("choose", "ann", 4, 8, cyd=9)]
        self.assert_fates(deeds, [STANDS, STANDS, STANDS])

    def test_choose_of_another_thing(self):
        deeds = [make("ann", 1, "choice"), make("ann", 2, "choice"), number("choose", "ann", 3, 7),
                 deed("ann", 4, ("choose", ("ann", 2), 7))]
        self.assert_fates(deeds, [STANDS] * 4)

    def test_put(self):
        deeds = [make("ann", 1, "bag"), number("put", "ann", 2, 7), number("put", "ann", 3, 8),
                 number("put", "bob", 1, 7, ann=3), number("take", "ann", 4, 9), number("take", "ann", 5, 7),
                 number("take", "ann", 6, 7), number("take", "cyd", 1, 7, ann=6, bob=1)]
        self.assert_fates(deeds, [STANDS, ("outdone", ("ann", 5)), STANDS, STANDS, ("outdone", ("cyd", 1)), STANDS,
                                  STANDS, STANDS])

    def test_put_behind_the_take(self):
        deeds = [make("ann", 1, "bag"), number("take", "bob", 1, 7, ann=4), number("put", "ann", 3, 7, cyd=9)]
        self.assert_fates(deeds, [STANDS] * 3)

    def test_put_by_the_same_number_again_does_not_outdo(self):
        deeds = [make("ann", 1, "bag"), number("put", "ann", 2, 7), number("put", "ann", 3, 7)]
        self.assert_fates(deeds, [STANDS] * 3)

    def test_put_and_a_take_of_another_thing(self):
        deeds = [make("ann", 1, "bag"), make("ann", 2, "bag"), number("put", "ann", 3, 7),
                 deed("ann", 4, ("take", ("ann", 2), 7))]
        self.assert_fates(deeds, [STANDS] * 4)


class TestWrites(FateCase):

    def setUp(self):
        self.one = write("ann", 2, "abc", thing=X)
        self.places = places_of(self.one)
        self.begun = [make("ann", 1, "text"), self.one]

    def test_cut_by_one(self):
        deeds = self.begun + [cut("bob", 1, self.places[::-1], thing=X, ann=2)]
        self.assert_fates(deeds, [STANDS, ("outdone", ("bob", 1)), STANDS])

    def test_cut_by_several(self):
        a, b, c = self.places
        deeds = self.begun + [cut("ann", 3, [a, c], thing=X), cut("ann", 4, [a, c, a], thing=X),
                              cut("ann", 5, [b], thing=X), cut("ann", 6, [a, b, c], thing=X)]
        self.assert_fates(deeds, [STANDS, ("outdone", ("ann", 5)), STANDS, STANDS, STANDS, STANDS])

    def test_a_sign_that_is_left(self):
        deeds = self.begun + [cut("ann", 3, self.places[:2], thing=X), cut("ann", 4, self.places[:2], thing=X)]
        self.assert_fates(deeds, [STANDS] * 4)

    def test_several_writes_by_one_cut(self):
        other = write("bob", 1, "xy", self.places[0], 1, X, ann=2)
        deeds = self.begun + [other, cut("ann", 3, places_of(other) + self.places, thing=X, bob=1)]
        by = ("outdone", ("ann", 3))
        self.assert_fates(deeds, [STANDS, by, by, STANDS])

    def test_a_cut_in_another_text(self):
        deeds = self.begun + [make("ann", 3, "text"), cut("ann", 4, self.places, thing=("ann", 3))]
        self.assert_fates(deeds, [STANDS] * 4)

    def test_a_cut_that_is_taken_back(self):
        deeds = self.begun + [cut("ann", 3, self.places[:2], thing=X), cut("ann", 4, self.places[2:], thing=X),
                              cut("ann", 5, self.places, thing=X), back("ann", 6, 4, 4)]
        self.assert_fates(deeds, [STANDS, ("outdone", ("ann", 5)), STANDS, ("back", ("ann", 6)), STANDS, STANDS])

    def test_a_cut_ahead_of_the_write(self):
        deeds = [make("ann", 1, "text"), write("ann", 9, "abc", thing=X, bob=9)]
        deeds.append(cut("bob", 1, places_of(deeds[1]), thing=X, ann=9))
        self.assert_fates(deeds, [STANDS, STANDS, STANDS])

    def test_a_cut_does_not_have_to_have_seen_it(self):
        deeds = self.begun + [cut("zoe", 1, self.places, thing=X, mia=5)]
        self.assert_fates(deeds, [STANDS, ("outdone", ("zoe", 1)), STANDS])


class TestWhichComesFirst(FateCase):

    def test_back_ahead_of_idle_lost_and_outdone(self):
        deeds = [make("ann", 1), make("ann", 2, holder=("zoe", 1)), move("ann", 3, X, X), move("ann", 4, X),
                 move("ann", 5, X), back("ann", 6, 2, 4)]
        by = ("back", ("ann", 6))
        self.assert_fates(deeds, [("outdone", ("ann", 5)), by, by, by, STANDS, STANDS])

    def test_idle_and_lost_ahead_of_outdone(self):
        deeds = [make("ann", 1), move("ann", 2, X, ("zoe", 1)), move("ann", 3, X, X), move("ann", 4, X)]
        self.assert_fates(deeds, [("outdone", ("ann", 4)), IDLE, ("lost", [X]), STANDS])

    def test_idle_chooses_puts_and_writes_are_not_outdone(self):
        place = (step(1, "ann", 2),)
        deeds = [make("ann", 1, "count"), write("ann", 2, "a", thing=X), cut("ann", 3, [place], thing=X),
                 number("choose", "ann", 4, 1), number("choose", "ann", 5, 1), number("put", "ann", 6, 1),
                 number("take", "ann", 7, 1)]
        self.assert_fates(deeds, [STANDS] + [IDLE] * 6)


class TestByTheWords(FateCase):

    def test_some_histories(self):
        found = set()
        for seed in range(200):
            deeds = some_history(seed, 50)
            expected = fates_by_words(deeds)
            self.assertEqual(fates(shuffled(seed, deeds)), expected, seed)
            words = {one[0]: one[2][0] for one in deeds}
            found |= {(words[name], fate[0]) for name, fate in expected}
        for word in ["make", "move", "drop", "choose", "put", "write"]:
            self.assertIn((word, "outdone"), found)
        self.assertIn(("move", "lost"), found)

    def test_deeds_that_are_not_honest(self):
        for seed in range(60):
            deeds = some_list(seed)
            self.assertEqual(fates(deeds), fates_by_words(deeds), seed)
        # Each hand's deeds alone: what they are about was often not made.
        for seed in range(60):
            deeds = [one for one in some_history(seed, 50) if one[0][0] != "bob"]
            self.assertEqual(fates(deeds), fates_by_words(deeds), seed)

    def test_two_hundred_deeds(self):
        deeds = some_history(3, 200)
        self.assertEqual(fates(shuffled(3, deeds)), fates_by_words(deeds))


class TestTheAskersOwn(unittest.TestCase):

    def test_what_is_told_may_be_changed(self):
        deeds = [make("ann", 1), move("ann", 2, X, X)]
        rows = fates(deeds)
        kept = copy.deepcopy(rows)
        rows[1][1][1].clear()
        rows.clear()
        self.assertEqual(fates(deeds), kept)
        self.assertEqual(kept[1], (("ann", 2), ("lost", [X])))

    def test_what_is_handed_in_stays(self):
        deeds = shuffled(4, some_history(4))
        kept = list(deeds)
        rows = fates(deeds)
        self.assertEqual(deeds, kept)
        deeds.clear()
        self.assertEqual(rows, fates(kept))

    def test_kinds_of_what_is_told(self):
        rows = fates([make("ann", 1), move("ann", 2, X, X), back("ann", 3, 1, 1), move("bob", 1, X)])
        self.assertIs(type(rows), list)
        for name, fate in rows:
            self.assertEqual([type(name), type(fate), type(fate[0])], [tuple, tuple, str])
        self.assertIs(type(fates([make("ann", 1), move("ann", 2, X, X)])[1][1][1]), list)


if __name__ == "__main__":
    unittest.main()
