"""Points 29 to 32, what point 4 says of readings, and points 2 and 3 as far as folds go."""

import copy
import unittest

from copymeet.fold import empty, fold, reading, told
from copymeet.force import in_force
from tests.helpers import (
    GREAT_AMOUNT, ROOT, FoldByWords, add_of, back, clear, cut, deed, mark, ordered_by_words, settle, shuffled,
    some_history, step, write)

NOTHING = ("map", [])


def acts(hand, *given):
    """Deeds of one hand that does these acts one behind the other."""
    return [deed(hand, n, act) for n, act in enumerate(given, start=1)]


def make(kind, holder=ROOT, spot="key"):
    return ("make", kind, holder, spot)


# Each kind of leaf, by ann, in ROOT.
LEAVES = acts("ann", make("count", spot="n"), make("choice", spot="c"), make("bag", spot="b"), make("text", spot="t"))
N, C, B, T = [("ann", n) for n in range(1, 5)]
FIRST, LAST = (step(1, "cyd", 1),), (step(1, "cyd", 1), step(1, "cyd", 1, 1))
LATE = [
    write("cyd", 1, "xy", thing=T, ann=4),
    mark("cyd", 2, FIRST, LAST, thing=T, ann=4),
    clear("cyd", 3, LAST, LAST, thing=T, ann=4),
    deed("bob", 1, add_of(5, N), ann=9),
    deed("bob", 2, ("choose", C, 7), ann=9),
    deed("dan", 1, ("choose", C, 4), ann=9),
    deed("bob", 3, ("put", B, 7), ann=9),
    deed("bob", 4, ("put", B, 6), ann=9),
    deed("bob", 5, ("take", B, 7), ann=9),
]


class TestFold(unittest.TestCase):

    def test_the_empty_base(self):
        self.assertEqual(empty(), ([], []))
        self.assertEqual(fold(empty(), []), ([], []))
        self.assertEqual(told(empty()), NOTHING)
        self.assertEqual(reading([]), NOTHING)

    def test_all_four_kinds_of_leaves(self):
        rows, lost = fold(empty(), LEAVES + LATE)
        self.assertEqual(rows, [
            (N, "count", ROOT, "n", 5),
            (C, "choice", ROOT, "c", [(("bob", 2), 7), (("dan", 1), 4)][::-1]),
            (B, "bag", ROOT, "b", [(("bob", 4), 6)]),
            (T, "text", ROOT, "t", ([(FIRST, "x"), (LAST, "y")],
                                    [(("cyd", 2), FIRST, LAST, "bold", [(LAST, LAST)])])),
        ])
        self.assertEqual(lost, [])

    def test_in_any_order_and_told_twice(self):
        base = fold(empty(), LEAVES + LATE)
        for handed in [LATE + LEAVES, (LEAVES + LATE)[::-1], LATE + LEAVES + LATE, shuffled(1, LEAVES + LATE)]:
            self.assertEqual(fold(empty(), handed), base)

    def test_the_order_and_not_the_numbers_of_hands_decides(self):
        # The stamp of ann.2 is 12, behind bob.1, and that of bob.2 is 3.
        deeds = [deed("ann", 1, make("choice")), deed("ann", 2, ("choose", ("ann", 1), 1), bob=10),
                 deed("bob", 1, ("choose", ("ann", 1), 2), ann=1), deed("bob", 2, ("choose", ("ann", 1), 3), ann=1)]
        self.assertEqual(fold(empty(), deeds[::-1])[0][0][4], [(("ann", 2), 1)])

    def test_acts_about_things_that_were_not_made(self):
        late = acts("bob", add_of(5, ("zoe", 1)), ("choose", ("zoe", 1), 5), ("put", ROOT, 5), ("take", ROOT, 5),
                    ("drop", ("zoe", 1)), ("move", ("zoe", 1), ROOT, "x"), make("map", ("zoe", 1)),
                    add_of(3, ROOT), ("cut", ("zoe", 1), (FIRST,)))
        late += [write("bob", 10, "x", thing=("zoe", 1)), mark("bob", 11, FIRST, LAST, thing=ROOT),
                 clear("bob", 12, FIRST, LAST, thing=("zoe", 1))]
        self.assertEqual(fold(empty(), late), ([], []))

    def test_acts_about_things_made_later_in_the_order(self):
        deeds = [deed("zoe", 1, make("count"), ann=5), deed("ann", 1, add_of(5, ("zoe", 1))),
                 deed("ann", 2, ("drop", ("zoe", 1))), deed("ann", 3, make("map", ("zoe", 1), "x"))]
        self.assertEqual(fold(empty(), deeds), ([(("zoe", 1), "count", ROOT, "key", 0)], []))

    def test_acts_about_things_of_another_kind(self):
        alone = fold(empty(), LEAVES + acts("bob", make("map"), make("row")))
        things = [N, C, B, T, ("bob", 1), ("bob", 2)]
        given = {N: "add", C: "choose", B: "put take", T: "write cut mark clear"}
        late = []
        for thing in things:
            for act in [add_of(1, thing), ("choose", thing, 1), ("put", thing, 1), ("take", thing, 1),
                        ("write", thing, (), 1, "x"), ("cut", thing, (FIRST,)), ("mark", thing, FIRST, LAST, "bold"),
                        ("clear", thing, FIRST, LAST, "bold")]:
                if act[0] not in given.get(thing, "").split():
                    late.append(deed("cyd", len(late) + 1, act, ann=4, bob=2))
        self.assertEqual(len(late), 40)
        self.assertEqual(fold(alone, late), alone)

    def test_backs_and_settles_do_nothing(self):
        base = fold(empty(), LEAVES)
        self.assertEqual(fold(empty(), LEAVES + [back("ann", 5, 1, 4), settle("ann", 6), back("ann", 7, 1, 6)]), base)
        self.assertEqual(fold(base, [settle("bob", 1, ann=4), back("bob", 2, 1, 1, ann=4)]), base)

    def test_rows_are_sorted_by_thing_and_lost_moves_in_the_order(self):
        deeds = [deed("bob", 1, make("map", spot="a")), deed("ann", 10, make("map", ("bob", 1), "b")),
                 deed("ann", 9, make("row", ("bob", 1), "b"), bob=1)]
        moves = [deed(hand, n, ("move", ("bob", 1), ("ann", 10), "x"), zz=50)
                 for hand, n in [("bob", 3), ("ann", 11), ("cyd", 1), ("ann", 12)]]
        rows, lost = fold(empty(), moves + deeds)
        self.assertEqual([row[0] for row in rows], [("ann", 9), ("ann", 10), ("bob", 1)])
        self.assertEqual(lost, [("cyd", 1), ("bob", 3), ("ann", 11), ("ann", 12)])

    def test_spots_in_a_row_and_in_the_bin(self):
        deeds = acts("ann", make("row"), make("count", ("ann", 1), ((), 1)), make("bag", ("ann", 1), ((), 1)),
                     ("drop", ("ann", 3)), ("put", ("ann", 3), 4))
        self.assertEqual(fold(empty(), deeds)[0], [
            (("ann", 1), "row", ROOT, "key", None),
            (("ann", 2), "count", ("ann", 1), (step(1, "ann", 2),), 0),
            (("ann", 3), "bag", None, None, [(("ann", 5), 4)]),
        ])

    def test_by_the_words(self):
        for seed in range(120):
            deeds = some_history(seed)
            model = FoldByWords(deeds)
            self.assertEqual(fold(empty(), shuffled(seed, deeds)), model.base(), seed)

    def test_one_list_upon_the_other_at_every_cut(self):
        for seed in range(25):
            deeds = ordered_by_words(some_history(seed, 35))
            whole = fold(empty(), deeds)
            for halfway in range(len(deeds) + 1):
                base = fold(empty(), shuffled(halfway, deeds[:halfway]))
                self.assertEqual(fold(base, shuffled(seed, deeds[halfway:])), whole)
                # And all of it upon some base, one deed at a time.
            for one in range(len(deeds)):
                base = fold(base if one else empty(), deeds[one:one + 1])
            self.assertEqual(base, whole)

    def test_great_sums(self):
        deeds = acts("ann", make("count"), *[add_of(GREAT_AMOUNT, N)] * 120)
        self.assertEqual(fold(empty(), deeds)[0][0][4], 120 * GREAT_AMOUNT)
        base = ([(N, "count", ROOT, "key", 10 ** 99)], [])
        self.assertEqual(fold(base, deeds[1:2])[0][0][4], 10 ** 99 + GREAT_AMOUNT)


class TestTold(unittest.TestCase):

    def test_leaves(self):
        self.assertEqual(told(fold(empty(), LEAVES + LATE)), ("map", [
            ("b", B, ("bag", [6])),
            ("c", C, ("choice", [4, 7])),
            ("n", N, ("count", 5)),
            ("t", T, ("text", [(FIRST, "x", ["bold"]), (LAST, "y", [])])),
        ]))

    def test_empty_leaves_maps_and_rows(self):
        deeds = LEAVES + acts("bob", make("map", spot="y"), make("row", spot="z"))
        self.assertEqual(told(fold(empty(), deeds)), ("map", [
            ("b", B, ("bag", [])), ("c", C, ("choice", [])), ("n", N, ("count", 0)), ("t", T, ("text", [])),
            ("y", ("bob", 1), ("map", [])), ("z", ("bob", 2), ("row", [])),
        ]))

    def test_maps_and_rows_in_one_another(self):
        row, inner, count = ("ann", 1), ("ann", 2), ("ann", 3)
        place = (step(1, "ann", 2),)
        deeds = acts("ann", make("row", spot="r"), make("map", row, ((), 1)), make("count", inner, "n"),
                     make("row", row, (place, -1)), make("bag", ("ann", 4), ((), 1)), add_of(4, count))
        self.assertEqual(told(fold(empty(), deeds)), ("map", [("r", row, ("row", [
            (place + (step(-1, "ann", 4),), ("ann", 4), ("row", [
                ((step(1, "ann", 5),), ("ann", 5), ("bag", [])),
            ])),
            (place, inner, ("map", [("n", count, ("count", 4))])),
        ]))]))

    def test_several_things_at_one_key(self):
        deeds = [deed("bob", 1, make("count")), deed("ann", 1, make("bag")), deed("ann", 2, make("row"))]
        self.assertEqual(told(fold(empty(), deeds)), ("map", [
            ("key", ("ann", 1), ("bag", [])), ("key", ("ann", 2), ("row", [])), ("key", ("bob", 1), ("count", 0)),
        ]))

    def test_what_lies_in_the_bin_is_not_told(self):
        deeds = acts("ann", make("map", spot="m"), make("map", ("ann", 1), "in"), make("count", ("ann", 2), "n"),
                     ("drop", ("ann", 2)), make("bag", ("ann", 2), "b"))
        base = fold(empty(), deeds)
        self.assertEqual(len(base[0]), 4)
        self.assertEqual(told(base), ("map", [("m", ("ann", 1), ("map", []))]))
        again = fold(base, [deed("ann", 6, ("move", ("ann", 2), ROOT, "out"))])
        self.assertEqual(told(again), ("map", [
            ("m", ("ann", 1), ("map", [])),
            ("out", ("ann", 2), ("map", [("b", ("ann", 5), ("bag", [])), ("n", ("ann", 3), ("count", 0))])),
        ]))

    def test_seventy_deep(self):
        deeds = acts("ann", make("map"), *[make("map", ("ann", n), "in") for n in range(1, 70)])
        what, depth = told(fold(empty(), deeds)), 0
        while what[1]:
            what, depth = what[1][0][2], depth + 1
        self.assertEqual(depth, 70)

    def test_by_the_words(self):
        for seed in range(60):
            deeds = some_history(seed)
            self.assertEqual(told(fold(empty(), deeds)), FoldByWords(deeds).told(), seed)


class TestReading(unittest.TestCase):

    def test_of_the_deeds_in_force_alone(self):
        deeds = acts("ann", make("count"), add_of(1, N), add_of(10, N), ("back", 2, 2), add_of(100, N), ("back", 5, 5),
                     ("back", 6, 6))
        self.assertEqual(reading(deeds), ("map", [("key", N, ("count", 110))]))
        self.assertEqual(reading(deeds[:6]), ("map", [("key", N, ("count", 10))]))
        self.assertEqual(reading(deeds + acts("ann", *["x"] * 7, ("back", 1, 1))[7:]), NOTHING)

    def test_a_make_taken_back_leaves_what_is_about_it_idle(self):
        deeds = acts("ann", make("map"), ("back", 1, 1)) + [deed("bob", 1, make("count", N), ann=1),
                                                            deed("bob", 2, make("count", ROOT, "b"), ann=1)]
        self.assertEqual(reading(deeds), ("map", [("b", ("bob", 2), ("count", 0))]))

    def test_a_choose_taken_back_takes_nothing_away(self):
        deeds = acts("ann", make("choice"), ("choose", N, 1), ("choose", N, 2), ("back", 3, 3))
        self.assertEqual(reading(deeds), ("map", [("key", N, ("choice", [1]))]))

    def test_by_the_words_in_whatever_order_and_doubles(self):
        for seed in range(60):
            deeds = some_history(seed)
            whole = FoldByWords(in_force(deeds)).told()
            self.assertEqual(reading(deeds), whole)
            self.assertEqual(reading(shuffled(seed, deeds)), whole)
            self.assertEqual(reading(deeds[::-1] + deeds), whole)

    def test_a_list_in_which_some_hand_s_last_deed_is_a_back(self):
        tried = 0
        for seed in range(250):
            deeds = some_history(seed)
            for hand in ["ann", "bob", "cyd"]:
                own = [one for one in deeds if one[0][0] == hand]
                if not own or own[-1][2][0] != "back":
                    continue
                word, first, last = own[-1][2]
                settles = [one[0][1] for one in own if one[2] == ("settle",)]
                reached = [one for one in own[:-1] if first <= one[0][1] <= last and one[2] != ("settle",)
                           and not [n for n in settles if n > one[0][1]]]
                rest = [one for one in deeds if one not in reached and one != own[-1]]
                tried += len(reached)
                self.assertEqual(reading(deeds), reading(rest))
        self.assertGreater(tried, 50)

    def test_every_thing_made_hangs_from_the_root_or_from_the_bin(self):
        for seed in range(60):
            rows = fold(empty(), in_force(some_history(seed)))[0]
            holders = {row[0]: row[2] for row in rows}
            for thing in holders:
                way = [thing]
                while way[-1] not in (ROOT, None):
                    way.append(holders[way[-1]])
                    self.assertLessEqual(len(way), len(holders) + 1)

    def test_two_hundred_deeds(self):
        deeds = some_history(7, 200)
        self.assertEqual(reading(shuffled(7, deeds)), FoldByWords(in_force(deeds)).told())


def emptied(value):
    """Clear all lists within a value, the innermost first."""
    if isinstance(value, (list, tuple)):
        for part in value:
            emptied(part)
    if isinstance(value, list):
        value.clear()


class TestTheAskersOwn(unittest.TestCase):

    def setUp(self):
        self.base = fold(empty(), LEAVES + LATE)
        self.kept = copy.deepcopy(self.base)
        self.more = [mark("cyd", 4, FIRST, FIRST, thing=T, ann=9), clear("cyd", 5, FIRST, FIRST, thing=T, ann=9),
                     cut("cyd", 6, [LAST], thing=T, ann=9), deed("bob", 6, ("put", B, 9), ann=9),
                     deed("bob", 7, ("choose", C, 9), ann=9, dan=1), deed("bob", 8, add_of(9, N), ann=9),
                     deed("bob", 9, ("move", N, B, "x"), ann=9), deed("bob", 10, ("drop", N), ann=9),
                     deed("bob", 11, make("map"), ann=9)]

    def test_the_base_handed_in_stays(self):
        fold(self.base, self.more)
        told(self.base)
        self.assertEqual(self.base, self.kept)

    def test_what_is_told_may_be_changed(self):
        for change in [lambda: fold(self.base, []), lambda: told(self.base), lambda: fold(self.base, self.more),
                       lambda: reading(LEAVES + LATE), empty]:
            one = change()
            kept = copy.deepcopy(one)
            emptied(one)
            self.assertEqual(self.base, self.kept)
            self.assertEqual(change(), kept)

    def test_the_base_handed_in_may_be_changed_later(self):
        one, two = fold(self.base, []), told(self.base)
        kept = copy.deepcopy((one, two))
        emptied(self.base)
        self.assertEqual((one, two), kept)

    def test_deeds_handed_in_stay(self):
        deeds = shuffled(3, LEAVES + LATE)
        kept = list(deeds)
        fold(empty(), deeds)
        reading(deeds)
        self.assertEqual(deeds, kept)

    def test_kinds_of_what_is_told(self):
        self.assertEqual([type(part) for part in self.base], [list, list])
        self.assertEqual({type(row) for row in self.base[0]}, {tuple})
        self.assertEqual([type(self.base), type(told(self.base)), type(told(self.base)[1])], [tuple, tuple, list])
        self.assertEqual([type(part) for part in told(self.base)[1][0]], [str, tuple, tuple])


if __name__ == "__main__":
    unittest.main()
