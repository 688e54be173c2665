"""The refusals: which class stands under which, and their fields."""

import unittest

from callmatch import errors
from callmatch.errors import CallError, NoChart, NoName, NoPaper, NoTable, NoText, NoWay, TooLong

REFUSALS = (NoTable, TooLong, NoName, NoChart, NoWay, NoPaper, NoText)


class Classes(unittest.TestCase):
    def test_call_error_stands_straight_under_value_error(self):
        self.assertEqual(CallError.__bases__, (ValueError,))

    def test_each_refusal_stands_straight_under_call_error(self):
        for refusal in REFUSALS:
            self.assertEqual(refusal.__bases__, (CallError,), refusal)

    def test_no_refusal_stands_under_another(self):
        for one in REFUSALS:
            for other in REFUSALS:
                self.assertEqual(issubclass(one, other), one is other, (one, other))

    def test_there_are_no_others(self):
        found = [thing for thing in vars(errors).values() if isinstance(thing, type)]
        self.assertEqual(set(found), set(REFUSALS) | {CallError})


class Fields(unittest.TestCase):
    def test_no_chart(self):
        error = NoChart(3, -1)
        self.assertEqual((error.function, error.edge), (3, -1))

    def test_no_way(self):
        self.assertEqual(NoWay(4).at, 4)

    def test_no_paper(self):
        self.assertEqual(NoPaper(-7).row, -7)

    def test_no_text(self):
        self.assertEqual(NoText(12).row, 12)

    def test_each_object_has_its_own(self):
        one, other = NoChart(0, 1), NoChart(2, 3)
        self.assertEqual((one.function, one.edge, other.function, other.edge), (0, 1, 2, 3))

    def test_fields_come_through_raise(self):
        for make, field in ((NoWay, "at"), (NoPaper, "row"), (NoText, "row")):
            with self.assertRaises(CallError) as caught:
                raise make(5)
            self.assertEqual(getattr(caught.exception, field), 5)

    def test_those_without_fields_take_words(self):
        for make in (NoTable, TooLong, NoName):
            with self.assertRaises(ValueError) as caught:
                raise make("words")
            self.assertEqual(str(caught.exception), "words")


if __name__ == "__main__":
    unittest.main()
