"""Refusals: [4]."""

import unittest

from sleepmany import errors

FIELDS = {
    "Wrong": "at", "TooGreat": "length", "Twice": "name", "NotSo": None, "TooMany": "most", "NoHall": "at",
    "NoRow": "number", "NoWay": "at", "Full": "most", "NoSleeper": "name", "NoBeat": "beat", "Nothing": None,
    "Stopped": "at", "NoText": None, "NoLine": None, "NoHouse": None,
}


class Unshowable:
    """It can be kept, but neither shown nor compared nor asked for its truth."""

    def fail(self, *rest):
        raise AssertionError("only kept, not looked at")

    __repr__ = __str__ = __eq__ = __bool__ = __len__ = __format__ = fail


def refusals():
    return {word: getattr(errors, word) for word in FIELDS}


class ErrorsTest(unittest.TestCase):
    def test_sixteen_stand_under_sleep_error(self):
        self.assertEqual(len(refusals()), 16)
        for word, refusal in refusals().items():
            with self.subTest(word):
                self.assertTrue(issubclass(refusal, errors.SleepError))
                self.assertIsNot(refusal, errors.SleepError)

    def test_sleep_error_stands_under_value_error(self):
        self.assertTrue(issubclass(errors.SleepError, ValueError))

    def test_none_stands_under_another_one(self):
        for one in refusals().values():
            for other in refusals().values():
                with self.subTest(one=one, other=other):
                    self.assertEqual(issubclass(one, other), one is other)

    def test_the_field_is_the_very_thing(self):
        things = [
            0, -1, 10 ** 5000, True, None, "", "anna", b"ab", [], [1, [2]], (), ("a", 1), {}, {"a": []},
            object(), Unshowable(), ValueError,
        ]
        for word, field in FIELDS.items():
            for at, thing in enumerate(things):
                with self.subTest(word=word, at=at):
                    if field is not None:
                        refused = getattr(errors, word)(thing)
                        self.assertIs(getattr(refused, field), thing)

    def test_the_field_stays_the_callers_own_thing(self):
        names = ["a"]
        refused = errors.Twice(names)
        names.append("b")
        self.assertIs(refused.name, names)
        self.assertEqual(refused.name, ["a", "b"])

    def test_those_without_a_field_are_made_of_nothing(self):
        for word, field in FIELDS.items():
            if field is None:
                with self.subTest(word):
                    self.assertEqual(vars(getattr(errors, word)()), {})

    def test_sleep_error_is_made_of_a_text(self):
        self.assertEqual(str(errors.SleepError("no sleep")), "no sleep")

    def test_they_are_raised_and_caught(self):
        for word, field in FIELDS.items():
            with self.subTest(word), self.assertRaises(errors.SleepError) as caught:
                if field is None:
                    raise getattr(errors, word)()
                raise getattr(errors, word)(7)
            self.assertEqual(vars(caught.exception), {} if field is None else {field: 7})


if __name__ == "__main__":
    unittest.main()
