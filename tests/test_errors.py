import unittest

from ownbeat import errors

TEXT_CLASSES = [errors.NoLetter, errors.NoCode, errors.NoWindow, errors.NoMark, errors.NoText, errors.NoName, errors.NoRow]


class Errors(unittest.TestCase):
    def test_each_stands_right_under_the_one(self):
        self.assertEqual(errors.BeatError.__bases__, (ValueError,))
        for one in TEXT_CLASSES + [errors.NoWire]:
            self.assertEqual(one.__bases__, (errors.BeatError,), one)

    def test_made_with_one_text(self):
        for one in TEXT_CLASSES:
            self.assertEqual(str(one("some words")), "some words")

    def test_no_wire_has_its_place(self):
        for at in (0, 1, 4999):
            self.assertEqual(errors.NoWire(at).at, at)

    def test_no_other_refusal_is_taken_for_it(self):
        for one in TEXT_CLASSES:
            with self.assertRaises(one):
                try:
                    raise one("some words")
                except errors.NoWire:
                    pass


if __name__ == "__main__":
    unittest.main()
