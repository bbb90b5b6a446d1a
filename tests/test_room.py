"""Points 44 to 48, and points 2 to 4 as far as rooms go."""

import random
import re
import unittest

from copymeet.errors import MeetError, NoHand, NoRow
from copymeet.fates import fates
from copymeet.fold import reading
from copymeet.room import Room
from copymeet.wire import read, shown
from tests.helpers import refused

NINES = "9" * 40
TOO_LONG = "1" + "0" * 40


def room_of(*rows, hands=("ann", "bob")):
    """A room that was told these rows."""
    room = Room(list(hands))
    for row in rows:
        room.say(row)
    return room


def told_by_words(told):
    """The words of [47]."""
    kind, what = told
    if kind in ("map", "row"):
        inner = [(f"{spot} " if kind == "map" else "") + f"{thing[0]}.{thing[1]} {told_by_words(part)}"
                 for spot, thing, part in what]
        return "|".join(inner).join("{}" if kind == "map" else "[]")
    if kind == "text":
        words = sorted({word for row in what for word in row[2]})
        marked = [f" {word}:" + ",".join(str(k) for k, row in enumerate(what) if word in row[2]) for word in words]
        return f"'{len(what)} " + "".join(row[1] for row in what) + "".join(marked)
    numbers = [what] if kind == "count" else what
    return {"count": "=", "choice": "?", "bag": "#"}[kind] + ",".join(str(number) for number in numbers)


class RoomCase(unittest.TestCase):

    def assert_says(self, room, *told):
        """Rows and their answers."""
        for row, answer in told:
            self.assertEqual(room.say(row), answer, row)

    def all_told(self, room):
        return [room.say(f"{hand} {word}") for hand in room.desks for word in ["tell", "held"]]

    def assert_refused(self, room, row, error, **fields):
        before = self.all_told(room)
        self.assertEqual(refused(room.say, row), (error, fields), row)
        self.assertEqual(self.all_told(room), before, row)


class TestDoing(RoomCase):

    def test_each_row_that_does_a_deed(self):
        self.assert_says(
            room_of(),
            ("ann make map .0 m", "ann.1 - make map .0 m"),
            ("ann make row ann.1 r", "ann.2 ann.1 make row ann.1 r"),
            ("ann make count ann.2 0", "ann.3 ann.2 make count ann.2 - >"),
            ("ann make choice ann.2 0", "ann.4 ann.3 make choice ann.2 >ann.3.0 <"),
            ("ann make bag ann.2 2", "ann.5 ann.4 make bag ann.2 >ann.3.0 >"),
            ("ann make text .0 t", "ann.6 ann.5 make text .0 t"),
            ("ann move ann.3 .0 c", "ann.7 ann.6 move ann.3 .0 c"),
            ("ann move ann.6 ann.2 1", "ann.8 ann.7 move ann.6 ann.2 >ann.3.0<ann.4.0 >"),
            ("ann add ann.3 -5", "ann.9 ann.8 add ann.3 -5"),
            (f"ann choose ann.4 {NINES}", f"ann.10 ann.9 choose ann.4 {NINES}"),
            ("ann put ann.5 0", "ann.11 ann.10 put ann.5 0"),
            ("ann take ann.5 7", "ann.12 ann.11 take ann.5 7"),
            ("ann write ann.6 0   a", "ann.13 ann.12 write ann.6 - >   a"),
            ("ann cut ann.6 0 1", "ann.14 ann.13 cut ann.6 >ann.13.0,>ann.13.0>ann.13.1"),
            ("ann mark ann.6 0 0 bold", "ann.15 ann.14 mark ann.6 >ann.13.0>ann.13.1>ann.13.2 "
                                        ">ann.13.0>ann.13.1>ann.13.2 bold"),
            ("ann clear ann.6 0 9 red", "ann.16 ann.15 clear ann.6 >ann.13.0>ann.13.1>ann.13.2 "
                                        ">ann.13.0>ann.13.1>ann.13.2 red"),
            ("ann drop ann.3", "ann.17 ann.16 drop ann.3"),
            ("ann back 17 17", "ann.18 ann.17 back 17 17"),
            ("ann settle", "ann.19 ann.18 settle"),
            ("bob settle", "bob.1 - settle"),
            ("ann tell", "{c ann.3 =-5|m ann.1 {r ann.2 [ann.4 ?" + NINES + "|ann.6 '1 a bold:0|ann.5 #0]}}"),
        )

    def test_at_in_a_row(self):
        room = room_of("ann make row .0 r", *[f"ann make count ann.1 {at}" for at in range(3)])
        self.assertEqual(room.say("ann tell"), "{r ann.1 [ann.2 =0|ann.3 =0|ann.4 =0]}")
        for at, order in [("0", "5234"), ("1", "56234"), ("3", "562734"), ("6", "5627348"), ("99", "56273489")]:
            room.say(f"ann make count ann.1 {at}")
            inner = "|".join(f"ann.{name} =0" for name in order)
            self.assertEqual(room.say("ann tell"), "{r ann.1 [" + inner + "]}", at)
        room.say(f"ann make count ann.1 {NINES}")
        self.assertTrue(room.say("ann tell").endswith("|ann.9 =0|ann.10 =0]}"))

    def test_at_in_an_empty_row_and_text(self):
        for at in ["0", "1", "7", NINES]:
            room = room_of("ann make row .0 r", "ann make text .0 t")
            self.assert_says(room, (f"ann make map ann.1 {at}", "ann.3 ann.2 make map ann.1 - >"),
                             (f"ann write ann.2 {at} x", "ann.4 ann.3 write ann.2 - > x"))

    def test_at_of_a_move_within_its_own_row(self):
        rows = ["ann make row .0 r", "ann make count ann.1 0", "ann make count ann.1 1", "ann make count ann.1 2"]
        for at, order in [(0, "234"), (1, "234"), (2, "324"), (3, "342"), (9, "342")]:
            room = room_of(*rows, f"ann move ann.2 ann.1 {at}")
            inner = "|".join(f"ann.{name} =0" for name in order)
            self.assertEqual(room.say("ann tell"), "{r ann.1 [" + inner + "]}", at)

    def test_at_in_a_text(self):
        rows = ["ann make text .0 t", "ann write ann.1 0 abc"]
        for at, text in [("0", "-+abc"), ("1", "a-+bc"), ("2", "ab-+c"), ("3", "abc-+"), ("4", "abc-+"),
                         (NINES, "abc-+")]:
            room = room_of(*rows, f"ann write ann.1 {at} -+")
            self.assertEqual(room.say("ann tell"), "{t ann.1 '5 " + text + "}")
        self.assert_says(room_of(*rows), ("ann write ann.1 0 x", "ann.3 ann.2 write ann.1 >ann.2.0 < x"),
                         ("ann write ann.1 2 y", "ann.4 ann.3 write ann.1 >ann.2.0>ann.2.1 < y"),
                         ("ann write ann.1 5 z", "ann.5 ann.4 write ann.1 >ann.2.0>ann.2.1>ann.2.2 > z"))

    def test_at_where_it_is_no_row_and_no_text(self):
        room = room_of("ann make row .0 r", "ann make text .0 t", "ann make map .0 m")
        for thing, name in [("ann.2", ("ann", 2)), ("ann.3", ("ann", 3)), (".0", ("", 0)), ("zoe.9", ("zoe", 9))]:
            self.assert_refused(room, f"ann make map {thing} 0", "NoThing", thing=name)
            self.assert_refused(room, f"ann move ann.1 {thing} 4", "NoThing", thing=name)
        for thing, name in [("ann.1", ("ann", 1)), ("ann.3", ("ann", 3)), (".0", ("", 0)), ("zoe.9", ("zoe", 9))]:
            self.assert_refused(room, f"ann write {thing} 0 abc", "NoThing", thing=name)

    def test_from_and_to(self):
        rows = ["ann make text .0 t", "ann write ann.1 0 abcdef"]
        for first, last, left in [("0", "0", "bcdef"), ("0", "5", ""), ("1", "3", "aef"), ("5", "5", "abcde"),
                                  ("4", "99", "abcd"), ("0", NINES, ""), ("5", "6", "abcde")]:
            room = room_of(*rows, f"ann cut ann.1 {first} {last}")
            self.assertEqual(room.say("ann tell"), "{t ann.1 '" + f"{len(left)} {left}" + "}")
        for first, last, told in [("0", "0", "0"), ("0", "5", "0,1,2,3,4,5"), ("1", "3", "1,2,3"), ("4", "99", "4,5"),
                                  ("5", NINES, "5")]:
            room = room_of(*rows, f"ann mark ann.1 {first} {last} bold")
            self.assertEqual(room.say("ann tell"), "{t ann.1 '6 abcdef bold:" + told + "}")
        room = room_of(*rows, "ann mark ann.1 0 5 bold", "ann clear ann.1 2 99 bold")
        self.assertEqual(room.say("ann tell"), "{t ann.1 '6 abcdef bold:0,1}")

    def test_from_and_to_in_the_order_of_places(self):
        room = room_of("ann make text .0 t", "ann write ann.1 0 c", "ann write ann.1 0 ab")
        self.assertEqual(room.say("ann cut ann.1 0 2"),
                         "ann.4 ann.3 cut ann.1 >ann.2.0<ann.3.0,>ann.2.0<ann.3.0>ann.3.1,>ann.2.0")

    def test_from_and_to_refused(self):
        room = room_of("ann make text .0 t", "ann write ann.1 0 abc", "ann make map .0 m")
        for word, more in [("cut", ""), ("mark", " bold"), ("clear", " bold")]:
            for first, last in [("3", "3"), ("3", "9"), ("1", "0"), ("2", "1"), (NINES, NINES), ("4", "0")]:
                self.assert_refused(room, f"ann {word} ann.1 {first} {last}{more}", "NoPlace", place=())
            for thing, name in [("ann.2", ("ann", 2)), ("ann.3", ("ann", 3)), (".0", ("", 0)), ("zoe.1", ("zoe", 1))]:
                self.assert_refused(room, f"ann {word} {thing} 0 0{more}", "NoThing", thing=name)
                self.assert_refused(room, f"ann {word} {thing} 9 0{more}", "NoThing", thing=name)

    def test_a_cut_of_forty_and_of_more_places(self):
        rows = ["ann make text .0 t"] + ["ann write ann.1 0 abcdefghijkl"] * 4
        room = room_of(*rows)
        self.assert_refused(room, "ann cut ann.1 0 40", "NoPlace", place=())
        self.assert_refused(room, f"ann cut ann.1 7 {NINES}", "NoPlace", place=())
        self.assertEqual(len(read(room.say("ann cut ann.1 8 99"))[2][2]), 40)
        room = room_of(*rows)
        self.assertEqual(len(read(room.say("ann cut ann.1 0 39"))[2][2]), 40)
        self.assertEqual(room.say("ann tell"), "{t ann.1 '8 efghijkl}")
        self.assertEqual(room_of(*rows).say("ann mark ann.1 0 99 bold").split()[2], "mark")

    def test_a_text_in_the_bin(self):
        room = room_of("ann make text .0 t", "ann drop ann.1", "ann write ann.1 0 abc", "ann cut ann.1 1 1",
                       "ann mark ann.1 0 1 bold", "ann move ann.1 .0 u")
        self.assertEqual(room.say("ann tell"), "{u ann.1 '2 ac bold:0,1}")


class TestMeetings(RoomCase):

    def test_the_document_s_answers(self):
        room = room_of("ann make count .0 n", "ann add ann.1 5")
        self.assert_says(room, ("ann meet bob", "2 0"), ("ann meet bob", "0 0"), ("bob meet ann", "0 0"),
                         ("bob tell", "{n ann.1 =5}"), ("bob add ann.1 1", "bob.1 ann.2 add ann.1 1"),
                         ("ann meet bob", "0 1"), ("ann settle", "ann.3 ann.2,bob.1 settle"), ("bob meet ann", "0 1"))

    def test_both_ways(self):
        room = room_of("ann make count .0 n", "bob make count .0 n", "bob make count .0 n")
        self.assert_says(room, ("ann meet bob", "1 2"), ("ann tell", "{n ann.1 =0|n bob.1 =0|n bob.2 =0}"),
                         ("bob tell", "{n ann.1 =0|n bob.1 =0|n bob.2 =0}"))

    def test_a_hand_and_itself(self):
        room = room_of("ann make count .0 n")
        self.assert_says(room, ("ann meet ann", "0 0"), ("bob meet bob", "0 0"))

    def test_what_is_sent_is_read_as_it_was(self):
        room = room_of("ann make text .0 t", "ann write ann.1 0   a, <b>", "ann mark ann.1 1 3 bold",
                       "ann make row .0 r", "ann make bag ann.4 0", f"ann put ann.5 -{NINES}", "ann back 3 3",
                       "ann settle", "ann meet bob")
        self.assertEqual(room.say("bob tell"), room.say("ann tell"))
        self.assertEqual(room.say("bob tell"), "{r ann.4 [ann.5 #-" + NINES + "]|t ann.1 '8   a, <b>}")

    def test_three_hands(self):
        room = room_of("ann make count .0 n", "ann meet bob", "bob add ann.1 1", "bob meet cyd", "cyd add ann.1 10",
                       "ann add ann.1 100", hands=["ann", "bob", "cyd"])
        self.assert_says(room, ("cyd meet ann", "2 1"), ("ann tell", "{n ann.1 =111}"), ("cyd tell", "{n ann.1 =111}"),
                         ("bob tell", "{n ann.1 =1}"), ("bob meet cyd", "0 2"), ("bob tell", "{n ann.1 =111}"))


class TestSweepsAndHeld(RoomCase):

    def test_names_in_the_order(self):
        room = room_of("bob make count .0 n", "ann make count .0 n")
        self.assert_says(room, ("ann held", "ann.1"), ("ann sweep", "-"), ("ann meet bob", "1 1"),
                         ("ann held", "ann.1 bob.1"), ("ann settle", "ann.2 ann.1,bob.1 settle"),
                         ("bob meet ann", "0 1"), ("bob settle", "bob.2 ann.2,bob.1 settle"), ("bob meet ann", "1 0"),
                         ("bob sweep", "ann.1 bob.1 ann.2"), ("bob sweep", "-"), ("bob held", "bob.2"),
                         ("ann held", "ann.1 bob.1 ann.2 bob.2"), ("bob tell", "{n ann.1 =0|n bob.1 =0}"))

    def test_nothing_held(self):
        room = room_of("ann settle", hands=["ann"])
        self.assert_says(room, ("ann sweep", "ann.1"), ("ann held", "-"), ("ann sweep", "-"))
        self.assert_says(room_of(), ("bob held", "-"), ("bob sweep", "-"))


class TestWhy(RoomCase):

    def test_each_fate(self):
        room = room_of("ann make map .0 a", "ann make map .0 b", "ann make map .0 c", "ann meet bob",
                       "ann move ann.1 ann.2 in", "bob move ann.2 ann.1 in", "bob drop ann.3", "bob settle",
                       "ann make count .0 n", "ann back 5 5", "ann meet bob", "bob move ann.3 .0 d")
        self.assert_says(room, ("ann why ann.1", "outdone ann.4"), ("ann why ann.2", "stands"),
                         ("ann why ann.4", "stands"), ("ann why bob.1", "lost ann.1 ann.2"),
                         ("ann why ann.3", "outdone bob.2"), ("ann why bob.2", "stands"),
                         ("ann why ann.5", "back ann.6"),
                         ("ann why ann.6", "stands"), ("ann why bob.3", "stands"), ("bob why bob.2", "outdone bob.4"))

    def test_idle(self):
        room = room_of("ann make count .0 n", "ann meet bob", "bob add ann.1 1", "ann back 1 1", "ann meet bob")
        self.assert_says(room, ("bob why ann.1", "back ann.2"), ("bob why bob.1", "idle"), ("ann why bob.1", "idle"))

    def test_a_long_ring(self):
        room = room_of("ann make map .0 a", "ann make map ann.1 b", "ann make map ann.2 c", "ann make map .0 d",
                       "ann meet bob", "ann move ann.4 ann.3 in", "bob move ann.1 ann.4 in", "ann meet bob")
        self.assertEqual(room.say("ann why bob.1"), "lost ann.4 ann.3 ann.2 ann.1")

    def test_no_deed(self):
        room = room_of("ann make count .0 n", "ann meet bob", "ann add ann.1 1")
        for row in ["bob why ann.2", "ann why ann.3", "ann why bob.1", "ann why zoe.1", f"ann why ann.{NINES}"]:
            self.assert_refused(room, row, "NoDeed")
        self.assertEqual(room.say("ann why ann.2"), "stands")

    def test_what_was_thrown_away_since(self):
        room = room_of("ann make count .0 n", "ann move ann.1 .0 m", "ann settle", "ann meet bob", "bob settle",
                       "ann meet bob", "ann sweep", "bob sweep")
        self.assertEqual(room.say("ann held"), "bob.1")
        self.assert_says(room, ("ann why ann.1", "outdone ann.2"), ("bob why ann.2", "stands"),
                         ("ann why ann.3", "stands"))
        room.say("ann drop ann.1")
        self.assert_says(room, ("ann why ann.2", "outdone ann.4"), ("bob why ann.2", "stands"))


class TestTelling(RoomCase):

    def test_the_document_s_own_example(self):
        room = room_of("ann make count .0 a", "ann make row .0 b", "ann make choice ann.2 0", "ann make text .0 c",
                       "ann meet bob", "bob make bag ann.2 1", "ann add ann.1 5", "ann choose ann.3 2",
                       "bob choose ann.3 1", "ann write ann.4 0 hi", "ann mark ann.4 0 0 bold", "ann meet bob")
        for hand in ["ann", "bob"]:
            self.assertEqual(room.say(f"{hand} tell"),
                             "{a ann.1 =5|b ann.2 [ann.3 ?1,2|bob.1 #]|c ann.4 '2 hi bold:0}")

    def test_where_nothing_stands(self):
        self.assert_says(room_of(), ("ann tell", "{}"), ("bob tell", "{}"))
        room = room_of("ann make map .0 a", "ann make row .0 b", "ann make text .0 c", "ann make choice .0 d",
                       "ann make bag .0 e", "ann make count .0 f")
        self.assertEqual(room.say("ann tell"), "{a ann.1 {}|b ann.2 []|c ann.3 '0 |d ann.4 ?|e ann.5 #|f ann.6 =0}")

    def test_numbers(self):
        room = room_of("ann make bag .0 b", "ann make count .0 n", f"ann add ann.2 {NINES}", f"ann add ann.2 {NINES}",
                       "ann put ann.1 10", "ann put ann.1 9", f"ann put ann.1 -{NINES}", "ann put ann.1 9")
        self.assertEqual(room.say("ann tell"), "{b ann.1 #-" + NINES + ",9,10|n ann.2 =" + str(2 * int(NINES)) + "}")

    def test_texts(self):
        room = room_of("ann make text .0 t", "ann write ann.1 0 ab |}] cd", "ann mark ann.1 0 2 red",
                       "ann mark ann.1 1 8 bold", "ann mark ann.1 4 4 a", "ann clear ann.1 2 3 bold")
        self.assertEqual(room.say("ann tell"), "{t ann.1 '9 ab |}] cd a:4 bold:1,4,5,6,7,8 red:0,1,2}")
        room = room_of("ann make text .0 t", "ann write ann.1 0 abc", "ann mark ann.1 1 1 bold", "ann cut ann.1 1 1")
        self.assertEqual(room.say("ann tell"), "{t ann.1 '2 ac}")

    def test_nested(self):
        room = room_of("ann make map .0 m", "ann make row ann.1 r", "ann make map ann.2 0", "ann make row ann.2 1",
                       "ann make count ann.3 x", "ann make count ann.3 x", "ann make bag ann.4 0",
                       "ann make map ann.1 a")
        self.assertEqual(room.say("ann tell"),
                         "{m ann.1 {a ann.8 {}|r ann.2 [ann.3 {x ann.5 =0|x ann.6 =0}|ann.4 [ann.7 #]]}}")

    def test_seventy_deep(self):
        room = room_of("ann make map .0 a", *[f"ann make map ann.{n} a" for n in range(1, 70)])
        self.assertEqual(room.say("ann tell"), "".join("{a " + f"ann.{n} " for n in range(1, 71)) + "{}" + "}" * 70)


BAD_ROWS = [
    "", " ", "ann", "ann ", " ann tell", "ann tell ", "ann  tell", "ann tell x", "Ann tell", "ann Tell", "tell",
    "ann fly", "abcdefghi tell", "an1 tell", "ann.1 tell", ".0 tell", "- tell", "ann\ttell", "ann tell\n",
    "\nann tell", "ann tell\r", "ann write ann.1 0 a\tb", "ann write ann.1 0 a\n", "ann write ann.1 0 \0",
    "ann write ann.1 0 \x1f", "ann make map .0", "ann make map .0 ", "ann make map .0 Key", "ann make map .0 key2",
    "ann make map .0 2key", "ann make map .0 abcdefghijklm", "ann make list .0 key", "ann make .0 key",
    "ann make map key", "ann make map ann.0 key", "ann make map ann.01 key", "ann make map .1 key",
    "ann make map ann.1 -1", "ann make map ann.1 01", "ann make map ann.1 -0", "ann make map ann.1 +1",
    f"ann make map ann.1 {TOO_LONG}", "ann make map ann.1 - >", "ann make map ann.1 0 0", "ann make map .0 key key",
    "ann make map  .0 key", "ann make map ann.1 1_0", "ann move .0 key", "ann move ann.1 .0", "ann move ann.1 .0 Key",
    "ann move ann.1 ann.2 -1", "ann move ann.1 .0 key 1", f"ann move ann.1 ann.2 {TOO_LONG}", "ann move key .0 key",
    "ann move ann.1 ann.2 ", "ann drop", "ann drop ", "ann drop ann", "ann drop ann.1 ann.2", "ann drop ann.0",
    "ann drop .00", "ann drop -", "ann add ann.1", "ann add ann.1 ", "ann add ann.1 +5", "ann add ann.1 05",
    "ann add ann.1 -0", "ann add ann.1 1.5", "ann add 5", "ann add ann.1 5 5", "ann add ann.1 five",
    f"ann add ann.1 {TOO_LONG}", f"ann add ann.1 -{TOO_LONG}", "ann choose ann.1", "ann choose ann.1 --1",
    "ann put ann.1 ", "ann put ann.1 0x1", "ann take ann.1", "ann take ann.1 1 ", "ann write ann.1 0",
    "ann write ann.1 0 ", "ann write ann.1 0 abcdefghijklm", "ann write ann.1 -1 a", "ann write ann.1 a",
    "ann write ann.1  0 a", f"ann write ann.1 {TOO_LONG} a", "ann write 0 a", "ann write ann.1 00 a",
    "ann write ann.1", "ann cut ann.1 0", "ann cut ann.1", "ann cut ann.1 0 0 0", "ann cut ann.1 -1 0",
    "ann cut ann.1 0 -1", "ann cut ann.1 00 0", f"ann cut ann.1 0 {TOO_LONG}", "ann cut ann.1 >ann.1.0",
    "ann cut 0 0", "ann cut ann.1 0 ", "ann mark ann.1 0 0", "ann mark ann.1 0 0 ", "ann mark ann.1 0 0 Bold",
    "ann mark ann.1 0 0 abcdefghi", "ann mark ann.1 0 bold", "ann mark ann.1 0 0 0 bold",
    "ann mark ann.1 0 0 bold red", "ann clear ann.1 -1 0 bold", "ann clear ann.1 0 0 b2", "ann clear ann.1 0 01 bold",
    "ann clear ann.1 0 0", "ann back", "ann back 1", "ann back 0 1", "ann back 1 0", "ann back -1 1",
    "ann back 1 2 3", "ann back 01 1", "ann back 1 ", f"ann back 1 {TOO_LONG}", "ann settle ", "ann settle 1",
    "ann settled", "ann meet", "ann meet ", "ann meet Bob", "ann meet bob cyd", "ann meet bob.1",
    "ann meet abcdefghi", "ann meet -", "ann sweep ", "ann sweep bob", "ann held 1", "ann held ", "ann why",
    "ann why ", "ann why ann", "ann why .0", "ann why ann.0", "ann why ann.01", "ann why ann.1 ann.2", "ann why -",
    f"ann why ann.{TOO_LONG}", "ann why ann.-1",
]

# Rows by a grammar of their own.
HAND, NTH = "[a-z]{1,8}", "[1-9][0-9]{0,39}"
AT, NAME = f"(?:0|{NTH})", rf"{HAND}\.{NTH}"
THING = rf"(?:{NAME}|\.0)"
GRAMMAR = re.compile(f"{HAND} (?:" + "|".join([
    f"make (?:map|row|count|choice|bag|text) {THING} (?:[a-z]{{1,12}}|{AT})",
    f"move {THING} {THING} (?:[a-z]{{1,12}}|{AT})",
    f"drop {THING}", f"(?:add|choose|put|take) {THING} (?:0|-?{NTH})", f"write {THING} {AT} [ -~]{{1,12}}",
    f"cut {THING} {AT} {AT}", f"(?:mark|clear) {THING} {AT} {AT} [a-z]{{1,8}}", f"back {NTH} {NTH}", "settle",
    f"meet {HAND}", "sweep", "held", f"why {NAME}", "tell"]) + ")")


class TestRefusals(RoomCase):

    def test_no_row(self):
        room = room_of("ann make text .0 t", "ann write ann.1 0 abc", "ann make row .0 r", "ann make map .0 m")
        for row in BAD_ROWS:
            self.assertIsNone(GRAMMAR.fullmatch(row), row)
            self.assert_refused(room, row, "NoRow")

    def test_what_is_no_text(self):
        room = room_of("ann make count .0 n")
        for row in [None, 5, True, b"ann tell", ["ann tell"], ("ann", "tell"), {}, {"ann tell": 1}, 1.5]:
            self.assert_refused(room, row, "NoRow")

    def test_no_hand(self):
        room = room_of("ann make count .0 n")
        for row in ["zoe tell", "zoe make count .0 n", "zoe drop zoe.9", "an tell", "anna tell", "zoe meet ann",
                    "ann meet zoe", "zoe meet yan", "zoe why ann.9", "zoe cut ann.1 9 0", "zoe back 9 9",
                    "zoe sweep", "abcdefgh held",
                    "ann meet an"]:
            self.assert_refused(room, row, "NoHand")

    def test_no_row_comes_first(self):
        room = room_of("ann make count .0 n")
        for row in ["zoe tell ", "zoe make count", "zoe meet Bob", "zoe back 0 1", "zoe cut ann.9 -1 0"]:
            self.assert_refused(room, row, "NoRow")

    def test_the_refusals_of_the_desk(self):
        room = room_of("ann make map .0 m", "ann make map ann.1 n", "ann make text .0 t", "ann settle",
                       "ann drop ann.3")
        for row, error, fields in [
                ("ann drop ann.9", "NoThing", {"thing": ("ann", 9)}), ("ann drop .0", "NoThing", {"thing": ("", 0)}),
                ("ann add ann.1 4", "NoThing", {"thing": ("ann", 1)}),
                ("ann make map ann.3 x", "NoThing", {"thing": ("ann", 3)}),
                ("ann move ann.9 ann.9 x", "NoThing", {"thing": ("ann", 9)}),
                ("ann move ann.1 ann.9 x", "NoThing", {"thing": ("ann", 9)}),
                ("ann move ann.1 ann.2 0", "NoThing", {"thing": ("ann", 2)}),
                ("ann move ann.1 ann.2 x", "Ring", {"things": [("ann", 2), ("ann", 1)]}),
                ("ann back 6 6", "NoDeed", {}), ("ann back 2 1", "NoDeed", {}), (f"ann back 1 {NINES}", "NoDeed", {}),
                ("ann back 4 5", "Settled", {"number": 4}), ("ann back 1 1", "Settled", {"number": 4}),
                ("ann cut ann.3 0 0", "NoPlace", {"place": ()})]:
            self.assert_refused(room, row, error, **fields)
        self.assertEqual(room.say("ann back 5 5"), "ann.6 ann.5 back 5 5")

    def test_rows_that_were_changed(self):
        chance = random.Random(81)
        rows = ["ann make map .0 key", "ann make row ann.1 12", "bob move ann.1 bob.2 0", "ann drop ann.1",
                "bob add ann.1 -5", "ann choose ann.2 7", "ann put .0 0", "ann take ann.1 10", "ann write ann.1 0 a b",
                "ann cut ann.1 0 10",
                "bob mark ann.1 0 2 bold", "bob clear ann.1 0 2 bold", "ann back 1 2", "ann settle", "ann meet bob",
                "ann sweep", "bob held", "ann why bob.1", "bob tell"]
        room = room_of("ann make map .0 m", "bob make text .0 t")
        known = 0
        for turn in range(6000):
            row = chance.choice(rows)
            for change in range(chance.randint(0, 2)):
                spot = chance.randint(0, len(row))
                sign = chance.choice(["", *" .-019azA\t"])
                row = row[:spot] + sign + row[spot + chance.randint(0, 1):]
            found = refused(room.say, row)
            self.assertEqual(found is None or found[0] != "NoRow", GRAMMAR.fullmatch(row) is not None, row)
            known += found is None
            if turn % 150 == 149:
                room = room_of("ann make map .0 m", "bob make text .0 t")
        self.assertGreater(known, 500)

    def test_all_are_meet_errors(self):
        for row in ["", "zoe tell", "ann drop ann.1", "ann why ann.1", "ann back 1 1"]:
            with self.assertRaises(MeetError):
                room_of().say(row)
        with self.assertRaises(NoRow):
            room_of().say(None)
        with self.assertRaises(NoHand):
            room_of().say("zoe tell")


class TestTheRoomByItsDeeds(RoomCase):
    """Long talks; what is told is looked at by the deeds that the room answered."""

    def some_row(self, chance, hands):
        hand, other = chance.choice(hands), chance.choice(hands)
        things = [f"{chance.choice(hands)}.{chance.randint(1, 9)}" for turn in range(2)]
        holder = chance.choice([".0", ".0", things[1]])
        numbers = [chance.randint(0, 5) for turn in range(2)]
        return chance.choice([
            f"{hand} make {chance.choice(['map', 'row', 'text', 'text', 'bag', 'choice', 'count'])} {holder} "
            f"{chance.choice(['a', 'b', '0', '1'])}",
            f"{hand} move {things[0]} {holder} {chance.choice(['a', 'b', '0', '1'])}",
            f"{hand} {chance.choice(['add', 'choose', 'put', 'take'])} {things[0]} {numbers[0]}",
            f"{hand} write {things[0]} {numbers[0]} {chance.choice(['a', 'b c', 'xyz'])}",
            f"{hand} write {things[0]} {numbers[0]} {chance.choice(['a', 'b c', 'xyz'])}",
            f"{hand} {chance.choice(['cut', 'cut'])} {things[0]} {numbers[0]} {numbers[1]}",
            f"{hand} {chance.choice(['mark', 'clear'])} {things[0]} {numbers[0]} {numbers[1]} bold",
            f"{hand} back {numbers[0] + 1} {numbers[0] + 1 + chance.randint(0, 1)}", f"{hand} drop {things[0]}",
            f"{hand} settle", f"{hand} meet {other}", f"{hand} meet {other}", f"{hand} sweep",
        ])

    def talk(self, room, row, taken):
        """Say a row and keep what each hand has taken in; tells the row's word, None where it is refused."""
        if refused(room.say, row) is not None:
            return None
        hand, word = row.split()[:2]
        if word == "meet":
            both = {**taken[hand], **taken[row.split()[2]]}
            taken[hand], taken[row.split()[2]] = dict(both), dict(both)
        elif word != "sweep":
            name = (hand, 1 + len([name for name in taken[hand] if name[0] == hand]))
            taken[hand][name] = room.deeds[name]
        return word

    def test_some_talks(self):
        words = set()
        for seed in range(40):
            chance = random.Random(seed)
            hands = ["ann", "bob", "cyd"][:2 + seed % 2]
            room, taken = room_of(hands=hands), {hand: {} for hand in hands}
            while len(room.deeds) < 40:
                words.add(self.talk(room, self.some_row(chance, hands), taken))
            for hand in hands:
                deeds = list(taken[hand].values())
                self.assertEqual(room.say(f"{hand} tell"), told_by_words(reading(deeds)))
                for name, fate in fates(deeds):
                    parts = [f"{part[0]}.{part[1]}" for part in (fate[1] if fate[0] == "lost" else fate[1:])]
                    self.assertEqual(room.say(f"{hand} why {name[0]}.{name[1]}"), " ".join([fate[0]] + parts))
        self.assertEqual(len(words - {None}), 15)

    def test_a_hand_s_list_may_be_changed_later(self):
        hands = ["ann", "bob"]
        room = Room(hands)
        hands.clear()
        self.assertEqual(room.say("ann settle"), "ann.1 - settle")
        self.assertEqual(room.say("ann sweep"), "-")
        self.assertEqual(room.say("bob meet ann"), "0 1")

    def test_what_is_told_is_a_text(self):
        room = room_of()
        for row in ["ann make map .0 m", "ann meet bob", "ann sweep", "ann held", "ann why ann.1", "ann tell",
                    "ann settle"]:
            self.assertIs(type(room.say(row)), str)

    def test_answers_are_read_as_deeds(self):
        room = room_of()
        for row in ["ann make text .0 t", "ann write ann.1 0  x ", "ann cut ann.1 0 0", "ann back 1 2"]:
            answer = room.say(row)
            self.assertEqual(shown(read(answer)), answer)
            self.assertEqual(room.desks["ann"].held()[-1], read(answer))


if __name__ == "__main__":
    unittest.main()
