"""The interface of errors: MeetError and the nine refusals."""

import unittest

from copymeet import errors
from copymeet.errors import MeetError, NoDeed, NoHand, NoPlace, NoRow, NoText, NoThing, Ring, Settled, Swept

REFUSALS = [NoHand, NoThing, NoPlace, Ring, NoDeed, Settled, Swept, NoText, NoRow]
WITHOUT_FIELD = [NoHand, NoDeed, NoText, NoRow]


class TestErrors(unittest.TestCase):

    def test_meet_error_is_straight_under_value_error(self):
        self.assertEqual(MeetError.__bases__, (ValueError,))

    def test_each_refusal_is_straight_under_meet_error(self):
        for refusal in REFUSALS:
            self.assertEqual(refusal.__bases__, (MeetError,), refusal)

    def test_no_refusal_is_under_another_one(self):
        for one in REFUSALS:
            for other in REFUSALS:
                self.assertEqual(issubclass(one, other), one is other, (one, other))

    def test_there_are_no_other_errors(self):
        found = [value for value in vars(errors).values() if isinstance(value, type)]
        self.assertCountEqual(found, REFUSALS + [MeetError])

    def test_errors_without_a_field_are_made_with_and_without_words(self):
        for refusal in WITHOUT_FIELD + [MeetError]:
            self.assertIsInstance(refusal(), MeetError)
            self.assertIsInstance(refusal("some words"), MeetError)

    def test_no_thing_keeps_the_thing(self):
        self.assertEqual(NoThing(("ann", 3)).thing, ("ann", 3))
        self.assertEqual(NoThing(("", 0)).thing, ("", 0))

    def test_no_place_keeps_the_place(self):
        place = ((1, "ann", 4, 0), (-1, "bob", 2, 11))
        self.assertEqual(NoPlace(place).place, place)
        self.assertEqual(NoPlace(()).place, ())

    def test_ring_keeps_the_things_as_a_list(self):
        ring = Ring([("bob", 2), ("ann", 1)])
        self.assertIsInstance(ring.things, list)
        self.assertEqual(ring.things, [("bob", 2), ("ann", 1)])

    def test_ring_keeps_a_list_of_its_own(self):
        handed = [("bob", 2), ("ann", 1)]
        ring = Ring(handed)
        handed.append(("cyd", 3))
        self.assertEqual(ring.things, [("bob", 2), ("ann", 1)])
        ring.things.clear()
        self.assertEqual(handed, [("bob", 2), ("ann", 1), ("cyd", 3)])

    def test_settled_keeps_the_number(self):
        self.assertEqual(Settled(7).number, 7)
        self.assertEqual(Settled(10 ** 12 - 1).number, 10 ** 12 - 1)

    def test_swept_keeps_the_deed(self):
        self.assertEqual(Swept(("bob", 5)).deed, ("bob", 5))

    def test_fields_belong_to_each_error_alone(self):
        one, other = NoThing(("ann", 1)), NoThing(("bob", 2))
        self.assertEqual((one.thing, other.thing), (("ann", 1), ("bob", 2)))
        for refusal in REFUSALS:
            for field in ["thing", "place", "things", "number", "deed"]:
                self.assertFalse(hasattr(refusal, field), (refusal, field))

    def test_raised_errors_are_taken_as_meet_error_and_value_error(self):
        for refusal in REFUSALS:
            error = refusal() if refusal in WITHOUT_FIELD else refusal(())
            with self.assertRaises(MeetError) as taken:
                raise error
            self.assertIs(taken.exception, error)
            with self.assertRaises(ValueError):
                raise error


if __name__ == "__main__":
    unittest.main()
