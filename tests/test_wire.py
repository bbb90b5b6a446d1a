"""Points 42 and 43, and points 2 and 3 as far as written deeds go."""

import random
import re
import unittest

from copymeet.errors import NoText
from copymeet.wire import read, shown
from tests.helpers import ACTS, BIG, GREAT_AMOUNT, ROOT, chain, deed, some_history, step

# The document's own five deeds.
OWN = [
    ("ann.1 - make row .0 list", (("ann", 1), (), ("make", "row", ROOT, "list"))),
    ("bob.2 ann.1,bob.1 make text ann.1 - >",
     (("bob", 2), (("ann", 1), ("bob", 1)), ("make", "text", ("ann", 1), ((), 1)))),
    ("cyd.1 ann.1,bob.2 move bob.2 .0 notes",
     (("cyd", 1), (("ann", 1), ("bob", 2)), ("move", ("bob", 2), ROOT, "notes"))),
    ("ann.2 ann.1,bob.2 write bob.2 >bob.7.0 <   a",
     (("ann", 2), (("ann", 1), ("bob", 2)), ("write", ("bob", 2), ((1, "bob", 7, 0),), -1, "  a"))),
    ("ann.3 ann.2 cut bob.2 >ann.2.0,>ann.2.0>ann.2.1",
     (("ann", 3), (("ann", 2),), ("cut", ("bob", 2), (((1, "ann", 2, 0),), ((1, "ann", 2, 0), (1, "ann", 2, 1)))))),
]

PLACE = (step(1, "ann", 4), step(-1, "bob", BIG, 11))
NINES = "9" * 40

MORE = [
    ("ann.1 - make map .0 abcdefghijkl", deed("ann", 1, ("make", "map", ROOT, "abcdefghijkl"))),
    ("ann.1 - make bag bob.3 >ann.4.0<bob.999999999999.11 <",
     deed("ann", 1, ("make", "bag", ("bob", 3), (PLACE, -1)))),
    ("ann.1 - move ann.1 ann.2 - >", deed("ann", 1, ("move", ("ann", 1), ("ann", 2), ((), 1)))),
    ("ann.1 - move .0 .0 x", deed("ann", 1, ("move", ROOT, ROOT, "x"))),
    ("ann.1 - drop .0", deed("ann", 1, ("drop", ROOT))),
    ("ann.1 - drop zzzzzzzz.12", deed("ann", 1, ("drop", ("zzzzzzzz", 12)))),
    ("ann.1 - add ann.1 0", deed("ann", 1, ("add", ("ann", 1), 0))),
    ("ann.1 - add ann.1 -1", deed("ann", 1, ("add", ("ann", 1), -1))),
    (f"ann.1 - choose .0 {NINES}", deed("ann", 1, ("choose", ROOT, GREAT_AMOUNT))),
    (f"ann.1 - put ann.9 -{NINES}", deed("ann", 1, ("put", ("ann", 9), -GREAT_AMOUNT))),
    ("ann.1 - take ann.9 10", deed("ann", 1, ("take", ("ann", 9), 10))),
    ("ann.1 - write ann.9 - >  ", deed("ann", 1, ("write", ("ann", 9), (), 1, " "))),
    ("ann.1 - write ann.9 - > a b  c , > ~", deed("ann", 1, ("write", ("ann", 9), (), 1, "a b  c , > ~"))),
    ("ann.1 - mark ann.9 >ann.4.0 >ann.4.0<bob.999999999999.11 abcdefgh",
     deed("ann", 1, ("mark", ("ann", 9), PLACE[:1], PLACE, "abcdefgh"))),
    ("ann.1 - clear ann.9 >ann.4.0 >ann.4.0 b", deed("ann", 1, ("clear", ("ann", 9), PLACE[:1], PLACE[:1], "b"))),
    ("ann.1 - back 1 1", deed("ann", 1, ("back", 1, 1))),
    ("ann.1 - back 9 2", deed("ann", 1, ("back", 9, 2))),
    (f"ann.1 - back 1 {NINES}", deed("ann", 1, ("back", 1, GREAT_AMOUNT))),
    ("ann.1 - settle", deed("ann", 1, ("settle",))),
    ("b.13 a.1,b.12,c.100 settle", deed("b", 13, ("settle",), a=1, c=100)),
    (f"b.{NINES} b.{NINES[:-1]}8 settle", deed("b", GREAT_AMOUNT, ("settle",))),
]

# What is wrong with a text, and the text.
BAD = [
    # the whole
    ("nothing", ""),
    ("a blank", " "),
    ("a name alone", "ann.1"),
    ("no act", "ann.1 -"),
    ("an empty act", "ann.1 - "),
    ("a blank ahead", " ann.1 - settle"),
    ("a blank behind", "ann.1 - settle "),
    ("a double blank", "ann.1  - settle"),
    ("another one", "ann.1 -  settle"),
    ("words", "no deed at all"),
    ("a tab", "ann.1\t- settle"),
    ("a line end", "ann.1 - settle\n"),
    ("a line end in signs", "ann.1 - write .0 - > a\nb"),
    ("a tab in signs", "ann.1 - write .0 - > a\tb"),
    ("a nought sign in signs", "ann.1 - write .0 - > \0"),
    ("a sign right below the blank", "ann.1 - write .0 - > \x1f"),
    ("a carriage return", "ann.1 - settle\r"),
    ("an unknown word", "ann.1 - fly ann.1"),
    ("a great letter", "ann.1 - Settle"),
    ("no word", "ann.1 - - -"),
    # names
    ("ROOT as a deed", ".0 - settle"),
    ("no number", "ann - settle"),
    ("no number either", "ann. - settle"),
    ("number 0", "ann.0 - settle"),
    ("a number below 0", "ann.-1 - settle"),
    ("a nought ahead", "ann.01 - settle"),
    ("no hand", ".1 - settle"),
    ("nine letters", "abcdefghi.1 - settle"),
    ("a great letter", "Ann.1 - settle"),
    ("a figure in the hand", "an1.1 - settle"),
    ("two dots", "ann..1 - settle"),
    ("three parts", "ann.1.1 - settle"),
    ("a plus", "ann.+1 - settle"),
    ("an underscore", "ann.1_0 ann.9 settle"),
    ("forty-one figures", f"b.1{NINES} - settle"),
    ("a comma", "ann.1, - settle"),
    # seens
    ("an empty seen", "ann.1  settle"),
    ("not rising", "cyd.1 bob.1,ann.1 settle"),
    ("twice", "cyd.1 ann.1,ann.2 settle"),
    ("twice the same", "cyd.1 ann.1,ann.1 settle"),
    ("the own pair is missing", "ann.2 - settle"),
    ("missing among others", "ann.2 bob.1 settle"),
    ("too small", "ann.3 ann.1 settle"),
    ("too great", "ann.2 ann.2 settle"),
    ("a pair where n is 1", "ann.1 ann.1 settle"),
    ("number 0", "ann.1 ann.0 settle"),
    ("another's 0", "ann.1 bob.0 settle"),
    ("a blank in it", "ann.1 bob.1, cyd.1 settle"),
    ("a comma behind", "ann.1 bob.1, settle"),
    ("a comma ahead", "ann.1 ,bob.1 settle"),
    ("two commas", "ann.1 bob.1,,cyd.1 settle"),
    ("ROOT", "ann.1 .0 settle"),
    ("a dash and more", "ann.1 -,bob.1 settle"),
    ("two dashes", "ann.1 -- settle"),
    ("a nought ahead", "ann.1 bob.01 settle"),
    ("forty-one figures", f"ann.1 bob.1{NINES} settle"),
    ("as texts compare not", "ann.1 ba.1,b.1 settle"),
    # makes, moves, drops
    ("no kind", "ann.1 - make .0 list"),
    ("another kind", "ann.1 - make list .0 list"),
    ("an empty kind", "ann.1 - make  .0 x"),
    ("part of a kind", "ann.1 - make ma .0 list"),
    ("no key", "ann.1 - make map .0"),
    ("an empty key", "ann.1 - make map .0 "),
    ("thirteen letters", "ann.1 - make map .0 abcdefghijklm"),
    ("a great letter", "ann.1 - make map .0 Key"),
    ("a figure", "ann.1 - make map .0 key2"),
    ("a key and more", "ann.1 - make map .0 key more"),
    ("a number as in a room", "ann.1 - make map ann.1 0"),
    ("no side", "ann.1 - make map ann.1 -"),
    ("before the start", "ann.1 - make map ann.1 - <"),
    ("another side", "ann.1 - make map ann.1 - x"),
    ("two sides", "ann.1 - make map ann.1 - >>"),
    ("a pair and more", "ann.1 - make map ann.1 - > x"),
    ("an empty side", "ann.1 - make map ann.1 - "),
    ("a place without a side", "ann.1 - make map ann.1 >ann.1.0"),
    ("a double blank in a pair", "ann.1 - make map ann.1 -  >"),
    ("a holder of 0", "ann.1 - make map ann.0 key"),
    ("a holder ..0", "ann.1 - make map ..0 key"),
    ("a holder .00", "ann.1 - make map .00 key"),
    ("a holder .1", "ann.1 - make map .1 key"),
    ("a move of no thing", "ann.1 - move .0 key"),
    ("a move of a key", "ann.1 - move key .0 key"),
    ("a move and more", "ann.1 - move ann.1 .0 key key"),
    ("a drop of nothing", "ann.1 - drop"),
    ("of nothing either", "ann.1 - drop "),
    ("of two things", "ann.1 - drop .0 .0"),
    ("of a hand", "ann.1 - drop ann"),
    # numbers
    ("no number", "ann.1 - add ann.1"),
    ("an empty one", "ann.1 - add ann.1 "),
    ("a nought ahead", "ann.1 - add ann.1 05"),
    ("two noughts", "ann.1 - add ann.1 00"),
    ("a nought below 0", "ann.1 - add ann.1 -0"),
    ("a plus", "ann.1 - add ann.1 +5"),
    ("a nought ahead below 0", "ann.1 - add ann.1 -05"),
    ("a dash alone", "ann.1 - add ann.1 -"),
    ("two dashes", "ann.1 - add ann.1 --5"),
    ("a part", "ann.1 - add ann.1 1.5"),
    ("letters", "ann.1 - add ann.1 five"),
    ("an underscore", "ann.1 - add ann.1 1_0"),
    ("two numbers", "ann.1 - add ann.1 1 2"),
    ("a blank ahead", "ann.1 - add ann.1  5"),
    ("forty-one figures", f"ann.1 - add ann.1 1{NINES}"),
    ("forty-one below 0", f"ann.1 - take ann.1 -1{NINES}"),
    ("no thing", "ann.1 - choose 5"),
    ("no thing either", "ann.1 - put  5"),
    ("hex", "ann.1 - put .0 0x1"),
    # writes
    ("no signs", "ann.1 - write .0 - >"),
    ("no signs either", "ann.1 - write .0 - > "),
    ("thirteen signs", "ann.1 - write .0 - > abcdefghijklm"),
    ("thirteen blanks", "ann.1 - write .0 - > " + " " * 13),
    ("before the start", "ann.1 - write .0 - < a"),
    ("no pair", "ann.1 - write .0 a"),
    ("no side", "ann.1 - write .0 - a"),
    ("a side first", "ann.1 - write .0 > - a"),
    ("a double blank ahead of the side", "ann.1 - write .0 -  > a"),
    ("no thing", "ann.1 - write - > a"),
    # places
    ("an empty place", "ann.1 - cut .0 "),
    ("no places", "ann.1 - cut .0"),
    ("the start", "ann.1 - cut .0 -"),
    ("the start among them", "ann.1 - cut .0 >ann.1.0,-"),
    ("a comma behind", "ann.1 - cut .0 >ann.1.0,"),
    ("a comma ahead", "ann.1 - cut .0 ,>ann.1.0"),
    ("a blank behind a comma", "ann.1 - cut .0 >ann.1.0, >ann.1.0"),
    ("forty-one places", "ann.1 - cut .0 " + ",".join([">ann.1.0"] * 41)),
    ("the side <", "ann.1 - cut .0 <ann.1.0"),
    ("no side", "ann.1 - cut .0 ann.1.0"),
    ("two sides", "ann.1 - cut .0 >>ann.1.0"),
    ("a side behind", "ann.1 - cut .0 >ann.1.0>"),
    ("k of 12", "ann.1 - cut .0 >ann.1.12"),
    ("k below 0", "ann.1 - cut .0 >ann.1.-1"),
    ("a nought ahead", "ann.1 - cut .0 >ann.1.01"),
    ("no k", "ann.1 - cut .0 >ann.1"),
    ("an empty k", "ann.1 - cut .0 >ann.1."),
    ("n of 0", "ann.1 - cut .0 >ann.0.0"),
    ("no hand", "ann.1 - cut .0 >.1.0"),
    ("nine letters", "ann.1 - cut .0 >abcdefghi.1.0"),
    ("four parts", "ann.1 - cut .0 >ann.1.0.0"),
    ("forty-one figures", f"ann.1 - cut .0 >ann.1{NINES}.0"),
    ("a blank between steps", "ann.1 - cut .0 >ann.1.0 >ann.1.1"),
    ("a nought ahead of n", "ann.1 - cut .0 >ann.01.0"),
    ("a second step that is wrong", "ann.1 - cut .0 >ann.1.0<ann.1.12"),
    # marks
    ("no word", "ann.1 - mark .0 >ann.1.0 >ann.1.0"),
    ("an empty word", "ann.1 - mark .0 >ann.1.0 >ann.1.0 "),
    ("nine letters", "ann.1 - mark .0 >ann.1.0 >ann.1.0 abcdefghi"),
    ("a great letter", "ann.1 - clear .0 >ann.1.0 >ann.1.0 B"),
    ("first is the start", "ann.1 - mark .0 - >ann.1.0 bold"),
    ("last is the start", "ann.1 - clear .0 >ann.1.0 - bold"),
    ("one place", "ann.1 - mark .0 >ann.1.0 bold"),
    ("three places", "ann.1 - mark .0 >ann.1.0 >ann.1.0 >ann.1.0 bold"),
    ("two words", "ann.1 - mark .0 >ann.1.0 >ann.1.0 bold red"),
    # backs and settles
    ("first of 0", "ann.1 - back 0 1"),
    ("last of 0", "ann.1 - back 1 0"),
    ("below 0", "ann.1 - back -1 1"),
    ("one number", "ann.1 - back 1"),
    ("three numbers", "ann.1 - back 1 2 3"),
    ("no number", "ann.1 - back"),
    ("a nought ahead", "ann.1 - back 01 1"),
    ("forty-one figures", f"ann.1 - back 1 1{NINES}"),
    ("a settle of something", "ann.1 - settle 1"),
]

# A grammar of its own for written deeds, all but what [6] and [7] say of seens.
HAND, NTH = "[a-z]{1,8}", "[1-9][0-9]{0,39}"
NAME = rf"{HAND}\.{NTH}"
THING = rf"(?:{NAME}|\.0)"
NUMBER = f"(?:0|-?{NTH})"
STEP = rf"{HAND}\.{NTH}\.(?:[0-9]|1[01])"
PLACE_TEXT = f"(?:>{STEP}(?:[<>]{STEP})*)"
PAIR = f"(?:- >|{PLACE_TEXT} [<>])"
SPOT = f"(?:[a-z]{{1,12}}|{PAIR})"
GRAMMAR = re.compile("|".join([
    f"make (?:map|row|count|choice|bag|text) {THING} {SPOT}", f"move {THING} {THING} {SPOT}", f"drop {THING}",
    f"(?:add|choose|put|take) {THING} {NUMBER}", f"write {THING} {PAIR} [ -~]{{1,12}}",
    f"cut {THING} {PLACE_TEXT}(?:,{PLACE_TEXT}){{0,39}}",
    f"(?:mark|clear) {THING} {PLACE_TEXT} {PLACE_TEXT} [a-z]{{1,8}}",
    f"back {NTH} {NTH}", "settle"]))


def is_written(text):
    """Whether the text writes a deed, by the grammar."""
    parts = text.split(" ", 2)
    if len(parts) < 3 or not re.fullmatch(NAME, parts[0]) or not GRAMMAR.fullmatch(parts[2]):
        return False
    if not re.fullmatch(f"-|{NAME}(?:,{NAME})*", parts[1]):
        return False
    hand, n = parts[0].split(".")
    pairs = [pair.split(".") for pair in parts[1].split(",")] if parts[1] != "-" else []
    hands = [pair[0] for pair in pairs]
    own = [int(pair[1]) for pair in pairs if pair[0] == hand]
    return hands == sorted(set(hands)) and own == ([int(n) - 1] if int(n) > 1 else [])


def some_change(chance, text):
    """The text with a sign or two taken out, put in or changed."""
    for turn in range(chance.randint(1, 2)):
        spot = chance.randint(0, len(text))
        sign = chance.choice(" .,-<>0019azAb~\t")
        text = text[:spot] + chance.choice(["", sign, sign]) + text[spot + chance.randint(0, 1):]
    return text


class TestThereAndBack(unittest.TestCase):

    def assert_pair(self, text, one):
        self.assertEqual(shown(one), text)
        self.assertEqual(read(text), one)
        self.assertEqual(shown(read(text)), text)

    def test_the_document_s_own(self):
        for text, one in OWN:
            self.assert_pair(text, one)

    def test_every_act_and_the_edges(self):
        for text, one in MORE:
            self.assert_pair(text, one)

    def test_acts_of_each_word(self):
        for act in ACTS:
            one = deed("ann", 12, act, bob=3, zoe=40)
            self.assertTrue(shown(one).startswith(f"ann.12 ann.11,bob.3,zoe.40 {act[0]}"))
            self.assert_pair(shown(one), one)

    def test_each_kind_and_hand_s_length(self):
        for kind in ["map", "row", "count", "choice", "bag", "text"]:
            self.assert_pair(f"a.1 - make {kind} .0 k", deed("a", 1, ("make", kind, ROOT, "k")))
        self.assert_pair("abcdefgh.1 - drop abcdefgh.1", deed("abcdefgh", 1, ("drop", ("abcdefgh", 1))))

    def test_signs_as_they_are(self):
        every = "".join(chr(code) for code in range(32, 127) if code != 37)
        for spot in range(0, len(every), 12):
            signs = every[spot:spot + 12]
            self.assert_pair(f"ann.1 - write .0 - > {signs}", deed("ann", 1, ("write", ROOT, (), 1, signs)))
        for signs in [" ", "  ", " " * 12, " a", "a ", "- >", "settle", ",", "a.1 - settle"]:
            self.assert_pair(f"ann.1 - write .0 - > {signs}", deed("ann", 1, ("write", ROOT, (), 1, signs)))

    def test_steps(self):
        for k in range(12):
            self.assert_pair(f"ann.1 - cut .0 >ann.1.{k}", deed("ann", 1, ("cut", ROOT, ((step(1, "ann", 1, k),),))))
        self.assert_pair("ann.1 - cut .0 >ann.1.0<bob.22.3>ann.1.11", deed("ann", 1, ("cut", ROOT, (
            (step(1, "ann", 1), step(-1, "bob", 22, 3), step(1, "ann", 1, 11)),))))

    def test_forty_places(self):
        places = tuple((step(1, "ann", n),) for n in range(1, 41))
        text = "ann.1 - cut .0 " + ",".join(f">ann.{n}.0" for n in range(1, 41))
        self.assert_pair(text, deed("ann", 1, ("cut", ROOT, places)))

    def test_a_place_told_twice(self):
        place = (step(1, "ann", 1),)
        self.assert_pair("ann.1 - cut .0 >ann.1.0,>ann.1.0", deed("ann", 1, ("cut", ROOT, (place, place))))

    def test_deep_places(self):
        deep = chain("ann", 1000)
        for act in [("write", ROOT, deep, -1, "abc"), ("cut", ROOT, (deep, deep[:999])), ("cut", ROOT, (deep,) * 40),
                    ("mark", ROOT, deep, deep, "b"), ("make", "map", ROOT, (deep, 1))]:
            one = deed("ann", 1, act)
            self.assertEqual(read(shown(one)), one)

    def test_what_is_not_looked_at(self):
        # Seens that are not honest, ends the wrong way about, things that can't be.
        for text in ["ann.1 bob.9,cyd.1,zoe.4 settle", "ann.1 - mark .0 >b.1.0 >a.1.0 x", "ann.1 - move .0 .0 x",
                     "ann.1 - add .0 5", "ann.2 ann.1 drop ann.2", "ann.1 - back 7 3"]:
            self.assertEqual(shown(read(text)), text)

    def test_some_histories(self):
        for seed in range(40):
            for one in some_history(seed):
                self.assertTrue(is_written(shown(one)))
                self.assertEqual(read(shown(one)), one)

    def test_of_plain_tuples_texts_and_whole_numbers(self):
        def kinds(value):
            if type(value) is tuple:
                return {tuple}.union(*[kinds(part) for part in value])
            return {type(value)}
        for text, one in OWN + MORE:
            self.assertLessEqual(kinds(read(text)), {tuple, str, int})


class TestRefused(unittest.TestCase):

    def test_each_way_to_fail(self):
        for why, text in BAD:
            self.assertFalse(is_written(text), (why, text))
            with self.assertRaises(NoText, msg=(why, text)):
                read(text)

    def test_texts_that_were_changed(self):
        chance = random.Random(71)
        texts = [text for text, one in OWN + MORE] + [shown(deed("ann", 3, act, bob=3)) for act in ACTS]
        texts += [shown(one) for seed in range(10) for one in some_history(seed)]
        found = {True: 0, False: 0}
        for turn in range(8000):
            text = some_change(chance, chance.choice(texts))
            found[is_written(text)] += 1
            if is_written(text):
                self.assertEqual(shown(read(text)), text)
            else:
                with self.assertRaises(NoText, msg=text):
                    read(text)
        self.assertGreater(found[True], 500)
        self.assertGreater(found[False], 2000)

    def test_each_beginning_of_a_text(self):
        for text, one in OWN + MORE:
            for size in range(len(text)):
                part = text[:size]
                if is_written(part):
                    self.assertEqual(shown(read(part)), part)
                else:
                    with self.assertRaises(NoText, msg=part):
                        read(part)


if __name__ == "__main__":
    unittest.main()
