import inspect
import re
import unittest
from itertools import product

from parcelwall.errors import NoNote
from parcelwall.notes import read, written
from parcelwall.wall import Wall
from tests.trying import mixed_sizes, told, wall_with

# All signs that a text may hold, and one that it may not.
SIGNS = ["\t", "\n"] + [chr(code) for code in range(ord(" "), ord("~") + 1)]


def changed_by_one_sign(text):
    """The texts with one sign less, another one, or one more."""
    for place in range(len(text) + 1):
        yield text[:place] + text[place + 1:]
        for sign in SIGNS:
            yield text[:place] + sign + text[place:]
            yield text[:place] + sign + text[place + 1:]


class NotesCase(unittest.TestCase):
    def refused(self, text):
        with self.assertRaises(NoNote) as caught:
            read(text)
        self.assertIs(caught.exception.__class__, NoNote)

    def check_read(self, text, sizes):
        wall = read(text)
        self.assertIs(wall.__class__, Wall)
        boxes = len(sizes)
        self.assertEqual(told(wall), (sizes, [None] * boxes, list(range(boxes)), 0, []))
        return wall


class Interface(unittest.TestCase):
    def test_arguments_have_their_names(self):
        self.assertEqual(list(inspect.signature(written).parameters), ["wall"])
        self.assertEqual(list(inspect.signature(read).parameters), ["text"])
        self.assertEqual(written(wall=read(text="wall 12")), "wall 12")

    def test_kinds(self):
        self.assertIs(written(Wall([1])).__class__, str)
        self.assertIs(read("wall 1").__class__, Wall)


class Written(NotesCase):
    def test_as_the_document_tells(self):
        self.assertEqual(written(Wall([1, 1, 2, 3])), "wall 1123")

    def test_one_box_and_eight(self):
        for size in range(1, 10):
            self.assertEqual(written(Wall([size])), "wall " + str(size))
            self.assertEqual(written(Wall([size] * 8)), "wall " + str(size) * 8)

    def test_the_boxes_keep_their_order(self):
        self.assertEqual(written(Wall([3, 1, 2])), "wall 312")
        self.assertEqual(written(Wall([9, 8, 7, 6, 5, 4, 3, 2])), "wall 98765432")

    def test_parcels_and_days_are_not_written(self):
        wall = wall_with([9, 1, 5], [3, None, 5])
        before = told(wall)
        self.assertEqual(written(wall), "wall 915")
        self.assertEqual(told(wall), before)
        self.assertEqual(wall.come(1, 1), 3)
        self.assertEqual(written(wall), "wall 915")
        self.assertEqual(written(wall_with([4], [4])), "wall 4")
        self.assertEqual(written(wall_with([4] * 8, [4] * 8)), "wall 44444444")


class Read(NotesCase):
    def test_an_empty_wall_on_day_0(self):
        self.check_read("wall 1123", [1, 1, 2, 3])
        for size in range(1, 10):
            self.check_read(f"wall {size}", [size])
            self.check_read("wall " + str(size) * 8, [size] * 8)

    def test_each_number_of_boxes(self):
        for boxes in range(1, 9):
            self.check_read("wall 12345678"[:5 + boxes], list(range(1, boxes + 1)))

    def test_what_is_written_is_read(self):
        for seed in range(200):
            sizes = mixed_sizes(seed, 1 + seed % 8)
            full = wall_with(sizes, sizes)
            for wall in (Wall(sizes), full):
                self.assertEqual(written(self.check_read(written(wall), sizes)), written(wall))

    def test_another_wall_each_time(self):
        first, second = read("wall 12"), read("wall 12")
        self.assertIsNot(first, second)
        self.assertEqual(first.come(2, 1), 0)
        first.night()
        self.assertEqual(told(second), ([1, 2], [None, None], [0, 1], 0, []))
        self.assertEqual(second.come(1, 1), 0)
        self.check_read("wall 12", [1, 2])

    def test_not_the_wall_that_was_written(self):
        wall = wall_with([1, 2], [1, None])
        before = told(wall)
        read(written(wall)).come(2, 1)
        self.assertEqual(told(wall), before)


class Refused(NotesCase):
    def test_no_boxes(self):
        for text in ("", "wall", "wall ", "w", " ", "1", "123", " 1", "l 1"):
            with self.subTest(text=text):
                self.refused(text)

    def test_more_than_eight_boxes(self):
        for boxes in (9, 10, 95, 96, 120, 6000):
            self.refused("wall " + "1" * boxes)

    def test_a_figure_0(self):
        for text in ("wall 0", "wall 10", "wall 01", "wall 102", "wall 00000000"):
            with self.subTest(text=text):
                self.refused(text)

    def test_signs_ahead_within_and_behind(self):
        for sign in (" ", "\t", "\n", "+", "-", "_", ".", ",", "a", "\\", "~"):
            for text in (
                sign + "wall 12", "wa" + sign + "ll 12", "wall" + sign + " 12", "wall " + sign + "12",
                "wall 1" + sign + "2", "wall 12" + sign, "wall" + sign + "12" + sign,
            ):
                with self.subTest(text=text):
                    self.refused(text)

    def test_capital_letters(self):
        for text in ("Wall 12", "WALL 12", "walL 12", "wAll 12"):
            with self.subTest(text=text):
                self.refused(text)

    def test_another_sign_in_the_blanks_place(self):
        for text in ("wall\t12", "wall\n12", "wall12", "wall_12", "wall:12", "wall  12", "wall \t12", "wall\t 12"):
            with self.subTest(text=text):
                self.refused(text)

    def test_long_texts(self):
        for length in (99, 100, 101, 130):
            for begin in ("", "wall 1", "wall 1\n", "wall 1 ", "wall 12345678"):
                for sign in (" ", "1", "\n", "\t", "x"):
                    text = begin + sign * (length - len(begin))
                    self.assertEqual(len(text), length)
                    with self.subTest(text=text):
                        self.refused(text)

    def test_several_walls(self):
        for text in ("wall 1\nwall 2", "wall 1 wall 2", "wall 1wall 2", "wall wall 1"):
            with self.subTest(text=text):
                self.refused(text)

    def test_texts_that_a_number_may_be_read_from(self):
        # Python takes these for whole numbers, or for figures.
        for figures in ("+1", "-1", " 1", "1 ", "1_1", "\u0661", "\u00b2", "\uff11", "1\u0661"):
            with self.subTest(figures=figures):
                self.refused("wall " + figures)

    def test_every_text_that_is_a_sign_away(self):
        for text in ("wall 1", "wall 1123", "wall 12345678", "wall ", "wall"):
            for other in changed_by_one_sign(text):
                if re.fullmatch("wall [1-9]{1,8}", other):
                    self.check_read(other, [int(figure) for figure in other[5:]])
                else:
                    self.refused(other)

    def test_all_short_texts_of_a_few_signs_behind_the_head(self):
        for length in range(4):
            for signs in product("019 -\n", repeat=length):
                text = "wall " + "".join(signs)
                if length and set(signs) <= {"1", "9"}:
                    self.check_read(text, [int(figure) for figure in signs])
                else:
                    self.refused(text)


if __name__ == "__main__":
    unittest.main()
