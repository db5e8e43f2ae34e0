import unittest

from parcelwall.errors import NoBox, NoNights, NoNote, NoParcel, NoSize, NoWall, WallError


class ErrorClasses(unittest.TestCase):
    def test_a_wall_error_is_a_value_error(self):
        self.assertEqual(WallError.__bases__, (ValueError,))

    def test_each_refusal_stands_straight_under_wall_error(self):
        for kind in (NoWall, NoSize, NoNights, NoBox, NoParcel, NoNote):
            with self.subTest(kind=kind.__name__):
                self.assertEqual(kind.__bases__, (WallError,))

    def test_the_names_are_as_the_document_tells(self):
        kinds = (WallError, NoWall, NoSize, NoNights, NoBox, NoParcel, NoNote)
        self.assertEqual(
            [kind.__name__ for kind in kinds],
            ["WallError", "NoWall", "NoSize", "NoNights", "NoBox", "NoParcel", "NoNote"],
        )


if __name__ == "__main__":
    unittest.main()
