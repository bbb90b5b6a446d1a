"""Point 25 and point 14 for a text, and points 2 and 3 as far as texts go."""

import copy
import random
import unittest

from copymeet.leaves import Leaf
from copymeet.places import gap, places_of
from copymeet.texts import Text
from tests.helpers import ACTS, clear, cut, deed, mark, some_step, write

ONE = write("mia", 1, "abcde")
A, B, C, D, E = places_of(ONE)


def heard(deeds):
    text = Text()
    for one in deeds:
        text.hear(one)
    return text


def some_deeds(chance, count):
    """Writes, cuts, marks and clears at places that deeds ahead of them made, and now and then elsewhere."""
    made, places = [], [A]
    for n in range(1, count + 1):
        hand = chance.choice(["ann", "bob", "cyd"])
        others = {other: chance.randint(1, n) for other in ["ann", "bob", "cyd"] if chance.random() < 0.7}
        others.pop(hand, None)
        first, last = chance.choice(places), chance.choice(places + [(some_step(chance, 1),)])
        roll = chance.random()
        if roll < 0.4:
            made.append(write(hand, n, "xyz"[:chance.randint(1, 3)], first, chance.choice([-1, 1]), **others))
            places += places_of(made[-1])
        elif roll < 0.6:
            made.append(cut(hand, n, chance.sample(places, min(2, len(places))), **others))
        else:
            doing = mark if roll < 0.85 else clear
            made.append(doing(hand, n, first, last, chance.choice(["bold", "red"]), **others))
    return made


class TestText(unittest.TestCase):

    def test_nothing_at_first(self):
        self.assertEqual(Text().told(), [])
        self.assertEqual(Text().content(), ([], []))

    def test_is_a_leaf(self):
        self.assertIsInstance(Text(), Leaf)

    def test_hears_write_cut_mark_and_clear(self):
        text = heard([ONE])
        self.assertEqual(text.told(), [(A, "a", []), (B, "b", []), (C, "c", []), (D, "d", []), (E, "e", [])])
        text.hear(cut("ann", 1, [D, B]))
        self.assertEqual(text.told(), [(A, "a", []), (C, "c", []), (E, "e", [])])
        text.hear(mark("ann", 2, B, E, "red"))
        text.hear(mark("ann", 3, A, C, "bold"))
        self.assertEqual(text.told(), [(A, "a", ["bold"]), (C, "c", ["bold", "red"]), (E, "e", ["red"])])
        text.hear(clear("ann", 4, A, C, "red"))
        self.assertEqual(text.told(), [(A, "a", ["bold"]), (C, "c", ["bold"]), (E, "e", ["red"])])
        self.assertEqual(text.content(), (
            [(A, "a"), (C, "c"), (E, "e")],
            [(("ann", 2), B, E, "red", [(A, C)]), (("ann", 3), A, C, "bold", [])]))

    def test_and_nothing_else(self):
        for act in ACTS:
            text = heard([ONE, mark("ann", 1, A, B)])
            before = copy.deepcopy(text.content())
            text.hear(deed("ann", 2, act))
            changed = act[0] in ("write", "mark", "clear")
            self.assertEqual(text.content() != before, changed, act)

    def test_a_cut_of_no_sign_and_of_forty_places(self):
        deeds = [write("ann", n, "abcdefghijkl", (), 1) for n in range(1, 5)]
        places = [place for one in deeds for place in places_of(one)]
        text = heard(deeds + [cut("bob", 1, places[:40])])
        self.assertEqual([row[0] for row in text.told()], places[40:])
        text.hear(cut("bob", 2, places[:40]))
        self.assertEqual([row[0] for row in text.told()], places[40:])

    def test_what_is_written_between_a_mark_s_ends_later_bears_its_word(self):
        text = heard([ONE, mark("ann", 1, B, C)])
        text.hear(write("zoe", 1, "12", *gap(B, C)))
        text.hear(write("zoe", 2, "3", *gap(C, D)))
        text.hear(write("zoe", 3, "0", *gap(A, B)))
        told = [(sign, words) for place, sign, words in text.told()]
        self.assertEqual(told, [("a", []), ("0", []), ("b", ["bold"]), ("1", ["bold"]), ("2", ["bold"]),
                                ("c", ["bold"]), ("3", []), ("d", []), ("e", [])])

    def test_also_where_no_sign_stands_at_the_ends_any_more(self):
        text = heard([ONE, mark("ann", 1, B, D), cut("ann", 2, [B, C, D]), write("bob", 1, "x", *gap(A, E))])
        self.assertEqual([(row[1], row[2]) for row in text.told()], [("a", []), ("x", []), ("e", [])])
        text.hear(write("bob", 2, "y", C, -1))
        self.assertIn((C + ((-1, "bob", 2, 0),), "y", ["bold"]), text.told())

    def test_marks_of_a_text_without_signs(self):
        text = heard([mark("ann", 1, A, E)])
        self.assertEqual(text.told(), [])
        self.assertEqual(text.content(), ([], [(("ann", 1), A, E, "bold", [])]))
        text.hear(ONE)
        self.assertEqual([row[2] for row in text.told()], [["bold"]] * 5)

    def test_the_thing_is_not_looked_at(self):
        text = heard([write("ann", 1, "ab", thing=("", 0))])
        places = [row[0] for row in text.told()]
        text.hear(cut("ann", 2, places[:1], thing=("bob", 9)))
        text.hear(mark("ann", 3, places[1], places[1], thing=("cyd", 9)))
        self.assertEqual(text.told(), [(places[1], "b", ["bold"])])


class TestFilled(unittest.TestCase):

    def test_in_the_place_of_all_that_was_kept(self):
        text = heard([write("ann", 1, "gone"), mark("ann", 2, A, E, "gone")])
        content = ([(A, "a"), (B, "b")], [(("ann", 3), B, C, "bold", [(C, C)])])
        text.fill(content)
        self.assertEqual(text.content(), content)
        self.assertEqual(text.told(), [(A, "a", []), (B, "b", ["bold"])])
        text.fill(([], []))
        self.assertEqual((text.content(), text.told()), (([], []), []))

    def test_goes_on_as_one_that_came_there_by_hearing(self):
        chance = random.Random(41)
        marked = 0
        for turn in range(60):
            deeds = some_deeds(chance, 20)
            halfway = chance.randint(0, 20)
            one, other = heard(deeds[:halfway]), heard([ONE, mark("mia", 2, A, E, "gone"), cut("mia", 3, [B])])
            other.fill(one.content())
            for late in deeds[halfway:]:
                self.assertEqual((other.content(), other.told()), (one.content(), one.told()))
                one.hear(late)
                other.hear(late)
            self.assertEqual((other.content(), other.told()), (one.content(), one.told()))
            self.assertEqual(one.content(), heard(deeds).content())
            marked += len([row for row in one.told() if row[2]])
        self.assertGreater(marked, 50)


class TestTheAskersOwn(unittest.TestCase):

    def setUp(self):
        self.text = heard([ONE, mark("ann", 1, A, B), clear("ann", 2, B, B)])
        self.told = self.text.told()
        self.content = self.text.content()

    def test_what_is_told_may_be_changed(self):
        told, content = copy.deepcopy(self.told), copy.deepcopy(self.content)
        self.told[0][2].append("red")
        self.told.clear()
        self.content[1][0][4].clear()
        self.content[1].clear()
        self.content[0].clear()
        self.assertEqual((self.text.told(), self.text.content()), (told, content))

    def test_what_was_told_stays(self):
        told, content = copy.deepcopy(self.told), copy.deepcopy(self.content)
        for late in [cut("ann", 3, [A]), clear("ann", 4, A, E), mark("ann", 5, A, E), write("ann", 6, "new")]:
            self.text.hear(late)
        self.assertEqual((self.told, self.content), (told, content))

    def test_what_is_handed_in_stays_and_may_be_changed(self):
        content = copy.deepcopy(self.content)
        text = Text()
        text.fill(self.content)
        for late in [cut("ann", 3, [A]), clear("ann", 4, A, E), mark("ann", 5, A, E), write("ann", 6, "new")]:
            text.hear(late)
        self.assertEqual(self.content, content)
        text.fill(self.content)
        self.content[1][0][4].clear()
        self.content[1].clear()
        self.content[0].clear()
        self.assertEqual(text.content(), content)

    def test_kinds_of_what_is_told(self):
        self.assertEqual([type(self.told), type(self.content)], [list, tuple])
        self.assertEqual([type(part) for part in self.content], [list, list])
        self.assertEqual([type(part) for part in self.told[0]], [tuple, str, list])
        self.assertIs(type(self.told[0]), tuple)


if __name__ == "__main__":
    unittest.main()
