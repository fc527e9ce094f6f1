"""The error classes, as the interface lists them."""

import unittest

from slackchain import errors

NAMES = [
    "NoNumber", "NoTie", "Twice", "NoName", "NoFace", "Impossible", "NoPart",
    "NoGap", "InRing", "Apart", "Tight", "Off", "NoRow",
]


class ErrorClasses(unittest.TestCase):
    def test_slack_error_stands_straight_under_value_error(self):
        self.assertEqual(errors.SlackError.__bases__, (ValueError,))

    def test_each_stands_straight_under_slack_error(self):
        for name in NAMES:
            with self.subTest(name=name):
                self.assertEqual(getattr(errors, name).__bases__, (errors.SlackError,))

    def test_there_are_no_others(self):
        told = sorted(name for name, thing in vars(errors).items() if isinstance(thing, type))
        self.assertEqual(told, sorted(NAMES + ["SlackError"]))

    def test_one_that_is_raised_is_taken_as_itself_and_as_none_of_the_others(self):
        for name in NAMES:
            with self.subTest(name=name):
                with self.assertRaises(ValueError) as caught:
                    raise getattr(errors, name)("words")
                self.assertIsInstance(caught.exception, errors.SlackError)
                self.assertEqual(str(caught.exception), "words")
                taken = [one for one in NAMES if isinstance(caught.exception, getattr(errors, one))]
                self.assertEqual(taken, [name])


class ErrorValues(unittest.TestCase):
    def test_impossible_has_around(self):
        error = errors.Impossible("words", [("a", True), ("b", False)])
        self.assertEqual(error.around, [("a", True), ("b", False)])
        self.assertEqual(str(error), "words")

    def test_around_is_a_list_of_its_own(self):
        ring = [("a", True)]
        error = errors.Impossible("words", ring)
        ring.append(("b", True))
        self.assertEqual(error.around, [("a", True)])
        error.around.append(("c", True))
        self.assertEqual(ring, [("a", True), ("b", True)])

    def test_around_left_out_is_an_empty_list(self):
        self.assertEqual(errors.Impossible().around, [])
        self.assertEqual(errors.Impossible("words").around, [])
        self.assertEqual(errors.Impossible("words", []).around, [])

    def test_a_raised_impossible_has_around(self):
        ring = [("a", True), ("b", False)]
        with self.assertRaises(errors.Impossible) as caught:
            raise errors.Impossible("words", ring)
        ring.clear()
        self.assertIs(type(caught.exception.around), list)
        self.assertEqual(caught.exception.around, [("a", True), ("b", False)])

    def test_two_errors_have_nothing_in_common(self):
        one = errors.Impossible("words")
        other = errors.Impossible("words")
        one.around.append(("a", True))
        self.assertEqual(other.around, [])

    def test_tight_has_tight_gap(self):
        error = errors.Tight("words", "door")
        self.assertEqual(error.tight_gap, "door")
        self.assertEqual(str(error), "words")


if __name__ == "__main__":
    unittest.main()
