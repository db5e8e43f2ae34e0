import inspect
import unittest
from itertools import product

from parcelwall.errors import NoBox, NoNights, NoParcel, NoSize, NoWall
from parcelwall.fits import fit
from parcelwall.wall import Wall
from tests.trying import FAR, fits_by_trying, mixed_sizes, told


class WallCase(unittest.TestCase):
    def refused(self, wall, kind, method, *handed):
        """The very class, none under or above it, and the wall as it was."""
        before = told(wall)
        with self.assertRaises(kind) as caught:
            getattr(wall, method)(*handed)
        self.assertIs(caught.exception.__class__, kind)
        self.assertEqual(told(wall), before)


class Interface(unittest.TestCase):
    def test_arguments_have_their_names(self):
        wanted = {
            "sizes": [], "held": [], "free": [], "day": [], "night": [],
            "come": ["size", "nights"], "fetch": ["parcel"], "size_of": ["parcel"],
            "left": ["parcel"], "move": ["parcel", "box"],
        }
        wall = Wall(sizes=[1])
        for name, arguments in wanted.items():
            with self.subTest(name=name):
                self.assertEqual(list(inspect.signature(getattr(wall, name)).parameters), arguments)

    def test_kinds(self):
        wall = Wall([3, 3])
        self.assertIs(wall.come(size=2, nights=1).__class__, int)
        self.assertIs(wall.day().__class__, int)
        self.assertIs(wall.size_of(parcel=0).__class__, int)
        self.assertIs(wall.left(parcel=0).__class__, int)
        self.assertIsNone(wall.move(parcel=0, box=1))
        self.assertIs(wall.fetch(parcel=0).__class__, int)
        for answer in (wall.sizes(), wall.held(), wall.free(), wall.night()):
            self.assertIs(answer.__class__, list)


class Making(WallCase):
    def test_walls_of_one_to_eight_boxes(self):
        for boxes in range(1, 9):
            with self.subTest(boxes=boxes):
                wall = Wall([5] * boxes)
                self.assertEqual(wall.sizes(), [5] * boxes)
                self.assertEqual(wall.free(), list(range(boxes)))

    def test_no_box_and_nine_boxes_are_no_wall(self):
        for boxes in (0, 9, 10, 20):
            with self.subTest(boxes=boxes), self.assertRaises(NoWall):
                Wall([5] * boxes)

    def test_sizes_at_the_edges(self):
        self.assertEqual(Wall([1]).sizes(), [1])
        self.assertEqual(Wall([9]).sizes(), [9])
        self.assertEqual(Wall([9, 1, 4, 4]).sizes(), [9, 1, 4, 4])

    def test_sizes_beyond_the_edges_are_no_wall(self):
        for sizes in ([0], [10], [-1], [1, 0], [10, 9], [1, 2, 3, 4, 5, 6, 7, 10], [3, 0, 3]):
            with self.subTest(sizes=sizes), self.assertRaises(NoWall):
                Wall(sizes)

    def test_a_new_wall_is_empty_on_day_0(self):
        wall = Wall([3, 1, 2])
        self.assertEqual(told(wall), ([3, 1, 2], [None, None, None], [0, 1, 2], 0, []))


class OwnLists(WallCase):
    def test_the_list_handed_in_stays_as_it_was(self):
        sizes = [3, 1, 2]
        wall = Wall(sizes)
        wall.come(2, 1)
        wall.night()
        wall.come(1, 4)
        wall.move(1, 0)
        wall.fetch(1)
        self.assertEqual(sizes, [3, 1, 2])

    def test_a_refused_list_stays_as_it_was(self):
        sizes = [3, 1, 10]
        with self.assertRaises(NoWall):
            Wall(sizes)
        self.assertEqual(sizes, [3, 1, 10])

    def test_the_list_handed_in_may_be_changed_later(self):
        sizes = [3, 1, 2]
        wall = Wall(sizes)
        sizes[0] = 9
        sizes.append(9)
        self.assertEqual(wall.sizes(), [3, 1, 2])
        self.refused(wall, NoBox, "come", 4, 1)
        self.assertEqual(wall.held(), [None, None, None])

    def test_every_told_list_may_be_changed_later(self):
        wall = Wall([3, 1, 2])
        wall.come(2, 2)
        before = told(wall)
        for method in ("sizes", "held", "free"):
            with self.subTest(method=method):
                answer = getattr(wall, method)()
                answer[0] = 7
                answer.append(7)
                self.assertEqual(told(wall), before)
                answer.clear()
                self.assertEqual(told(wall), before)

    def test_the_list_of_those_sent_back_may_be_changed_later(self):
        wall = Wall([3, 1, 2])
        wall.come(2, 1)
        sent = wall.night()
        before = told(wall)
        sent.append(7)
        self.assertEqual(told(wall), before)
        self.assertEqual(wall.night(), [])

    def test_no_list_is_told_twice(self):
        wall = Wall([3, 1, 2])
        for method in ("sizes", "held", "free", "night"):
            with self.subTest(method=method):
                self.assertIsNot(getattr(wall, method)(), getattr(wall, method)())

    def test_a_list_told_ahead_does_not_follow_the_wall(self):
        wall = Wall([3, 1])
        held, free = wall.held(), wall.free()
        wall.come(1, 1)
        self.assertEqual((held, free), ([None, None], [0, 1]))

    def test_walls_made_of_one_list_stand_apart(self):
        sizes = [3, 1]
        first, second = Wall(sizes), Wall(sizes)
        first.come(1, 1)
        first.night()
        self.assertEqual(told(second), ([3, 1], [None, None], [0, 1], 0, []))
        self.assertEqual(second.come(3, 2), 0)


class Coming(WallCase):
    def test_the_least_empty_box_that_holds_it(self):
        wall = Wall([9, 3, 5, 4])
        self.assertEqual(wall.come(4, 1), 0)
        self.assertEqual(wall.held(), [None, None, None, 0])
        self.assertEqual(wall.come(4, 1), 1)
        self.assertEqual(wall.held(), [None, None, 1, 0])
        self.assertEqual(wall.come(4, 1), 2)
        self.assertEqual(wall.held(), [2, None, 1, 0])
        self.assertEqual(wall.free(), [1])

    def test_of_alike_boxes_the_least_number(self):
        wall = Wall([7, 4, 4, 4])
        for held in ([None, 0, None, None], [None, 0, 1, None], [None, 0, 1, 2], [3, 0, 1, 2]):
            wall.come(2, 1)
            self.assertEqual(wall.held(), held)

    def test_a_box_that_was_emptied_is_taken_again(self):
        wall = Wall([4, 4, 4])
        for parcel in range(3):
            wall.come(4, 9)
        self.assertEqual(wall.fetch(1), 1)
        self.assertEqual(wall.come(1, 9), 3)
        self.assertEqual(wall.held(), [0, 3, 2])

    def test_sizes_at_the_edges(self):
        wall = Wall([9, 1])
        self.assertEqual(wall.come(9, 1), 0)
        self.assertEqual(wall.come(1, 1), 1)
        self.assertEqual(wall.held(), [0, 1])
        self.assertEqual([wall.size_of(0), wall.size_of(1)], [9, 1])

    def test_sizes_beyond_the_edges(self):
        for size in (0, 10, -1, 11, 100):
            with self.subTest(size=size):
                self.refused(Wall([9, 9]), NoSize, "come", size, 1)

    def test_nights_at_the_edges(self):
        wall = Wall([9, 1])
        wall.come(1, 1)
        wall.come(1, 9)
        self.assertEqual([wall.left(0), wall.left(1)], [1, 9])

    def test_nights_beyond_the_edges(self):
        for nights in (0, 10, -1, 11, 100):
            with self.subTest(nights=nights):
                self.refused(Wall([9, 9]), NoNights, "come", 1, nights)

    def test_no_empty_box_holds_it(self):
        wall = Wall([3, 5])
        self.refused(wall, NoBox, "come", 6, 1)
        wall.come(4, 1)
        self.refused(wall, NoBox, "come", 4, 1)
        wall.come(1, 1)
        self.refused(wall, NoBox, "come", 1, 1)

    def test_the_first_refusal_told_is_due(self):
        full = Wall([1])
        full.come(1, 9)
        self.refused(full, NoSize, "come", 0, 0)
        self.refused(full, NoSize, "come", 10, 10)
        self.refused(full, NoSize, "come", 10, 1)
        self.refused(full, NoNights, "come", 1, 0)
        self.refused(full, NoNights, "come", 9, 10)
        self.refused(full, NoBox, "come", 1, 1)

    def test_refused_parcels_get_no_number(self):
        wall = Wall([2, 2, 2])
        self.assertEqual(wall.come(2, 1), 0)
        self.refused(wall, NoSize, "come", 0, 1)
        self.assertEqual(wall.come(2, 1), 1)
        self.refused(wall, NoNights, "come", 1, 0)
        self.refused(wall, NoBox, "come", 3, 1)
        self.assertEqual(wall.come(2, 1), 2)

    def test_no_number_comes_twice(self):
        wall = Wall([2, 2])
        self.assertEqual([wall.come(1, 1), wall.come(1, 5)], [0, 1])
        wall.fetch(1)
        self.assertEqual(wall.come(1, 5), 2)
        self.assertEqual(wall.night(), [0])
        self.assertEqual(wall.come(1, 5), 3)
        wall.fetch(2)
        wall.fetch(3)
        self.assertEqual(wall.held(), [None, None])
        self.assertEqual(wall.come(1, 5), 4)


class Fetching(WallCase):
    def test_the_box_is_told_and_empty_then(self):
        wall = Wall([9, 3, 5])
        wall.come(4, 2)
        wall.come(3, 2)
        self.assertEqual(wall.fetch(0), 2)
        self.assertEqual(wall.held(), [None, 1, None])
        self.assertEqual(wall.free(), [0, 2])
        self.assertEqual(wall.fetch(1), 1)
        self.assertEqual(wall.held(), [None, None, None])

    def test_a_parcel_that_was_fetched_is_not_sent_back(self):
        wall = Wall([3])
        wall.come(3, 1)
        wall.fetch(0)
        self.assertEqual(wall.night(), [])

    def test_numbers_of_no_parcel_in_the_wall(self):
        wall = Wall([3, 3, 3])
        wall.come(3, 1)
        wall.come(3, 9)
        wall.come(3, 9)
        wall.fetch(1)
        wall.night()
        for method, parcel in product(("fetch", "size_of", "left"), (0, 1, 3, 4, 100, -1, -2)):
            with self.subTest(method=method, parcel=parcel):
                self.refused(wall, NoParcel, method, parcel)
        self.assertEqual(wall.fetch(2), 2)

    def test_an_empty_wall_has_no_parcel(self):
        for method, parcel in product(("fetch", "size_of", "left"), (0, 1, -1)):
            with self.subTest(method=method, parcel=parcel):
                self.refused(Wall([3]), NoParcel, method, parcel)

    def test_the_size_is_the_parcels_and_not_the_boxs(self):
        wall = Wall([9])
        wall.come(4, 1)
        self.assertEqual(wall.size_of(0), 4)


class Nights(WallCase):
    def test_each_night_is_followed_by_the_next_day(self):
        wall = Wall([1])
        for day in range(1, 13):
            self.assertEqual(wall.night(), [])
            self.assertEqual(wall.day(), day)

    def test_nothing_but_a_night_brings_the_next_day(self):
        wall = Wall([2, 2])
        wall.come(1, 1)
        wall.move(0, 1)
        wall.fetch(0)
        self.assertEqual(wall.day(), 0)

    def test_sent_back_on_the_last_night_from_any_day(self):
        for begin, nights in product((0, 1, 5), range(1, 10)):
            with self.subTest(begin=begin, nights=nights):
                wall = Wall([1])
                for day in range(begin):
                    wall.night()
                wall.come(1, nights)
                for left in range(nights, 1, -1):
                    self.assertEqual(wall.left(0), left)
                    self.assertEqual(wall.night(), [])
                self.assertEqual(wall.left(0), 1)
                self.assertEqual(wall.night(), [0])
                self.assertEqual(wall.held(), [None])
                self.assertEqual(wall.free(), [0])
                self.assertEqual(wall.night(), [])

    def test_those_sent_back_are_told_rising(self):
        wall = Wall([9, 8, 7, 6])
        for size in (9, 8, 7, 6):
            wall.come(size, 2)
        wall.fetch(0)
        wall.night()
        self.assertEqual(wall.come(9, 1), 4)
        self.assertEqual(wall.held(), [4, 1, 2, 3])
        self.assertEqual(wall.night(), [1, 2, 3, 4])

    def test_only_those_whose_nights_are_over(self):
        wall = Wall([5, 5, 5])
        wall.come(5, 2)
        wall.come(5, 1)
        wall.night()
        wall.come(5, 1)
        self.assertEqual(wall.held(), [0, 2, None])
        self.assertEqual(wall.come(5, 2), 3)
        self.assertEqual(wall.night(), [0, 2])
        self.assertEqual(wall.held(), [None, None, 3])
        self.assertEqual(wall.left(3), 1)
        self.assertEqual(wall.night(), [3])


class Moving(WallCase):
    def test_to_an_empty_box_that_holds_it(self):
        wall = Wall([3, 5, 3])
        wall.come(3, 4)
        self.assertIsNone(wall.move(0, 1))
        self.assertEqual(wall.held(), [None, 0, None])
        self.assertEqual(wall.free(), [0, 2])
        self.assertIsNone(wall.move(0, 2))
        self.assertEqual(wall.held(), [None, None, 0])
        self.assertEqual(wall.size_of(0), 3)
        self.assertEqual(wall.fetch(0), 2)

    def test_it_is_kept_as_long_as_ahead(self):
        wall = Wall([3, 5])
        wall.come(3, 3)
        wall.night()
        wall.move(0, 1)
        self.assertEqual(wall.left(0), 2)
        self.assertEqual(wall.night(), [])
        wall.move(0, 0)
        self.assertEqual(wall.left(0), 1)
        self.assertEqual(wall.night(), [0])
        self.assertEqual(wall.held(), [None, None])

    def test_the_number_goes_along_and_none_is_used(self):
        wall = Wall([3, 3])
        wall.come(1, 1)
        wall.move(0, 1)
        self.assertEqual(wall.come(1, 1), 1)
        self.assertEqual(wall.held(), [1, 0])

    def test_a_number_that_is_no_box(self):
        wall = Wall([3, 5])
        wall.come(3, 1)
        for box in (-1, -2, 2, 3, 8, 100):
            with self.subTest(box=box):
                self.refused(wall, NoBox, "move", 0, box)

    def test_a_box_that_is_not_empty(self):
        wall = Wall([3, 5, 5])
        wall.come(3, 1)
        wall.come(3, 1)
        self.refused(wall, NoBox, "move", 0, 1)
        self.refused(wall, NoBox, "move", 1, 0)

    def test_the_parcels_own_box(self):
        wall = Wall([3, 5])
        wall.come(3, 1)
        self.refused(wall, NoBox, "move", 0, 0)

    def test_a_box_that_does_not_hold_it(self):
        wall = Wall([4, 3, 5])
        wall.come(4, 1)
        self.refused(wall, NoBox, "move", 0, 1)

    def test_no_parcel_ahead_of_no_box(self):
        wall = Wall([3, 3])
        wall.come(3, 9)
        wall.come(3, 1)
        wall.night()
        for parcel, box in product((1, 2, -1), (0, 1, 2, -1)):
            with self.subTest(parcel=parcel, box=box):
                self.refused(wall, NoParcel, "move", parcel, box)


class NumbersOfVeryManyFigures(WallCase):
    def wall(self):
        wall = Wall([3, 5])
        wall.come(3, 9)
        return wall

    def test_no_wall(self):
        for number in FAR:
            for sizes in ([number], [1, number], [number] * 8):
                with self.assertRaises(NoWall) as caught:
                    Wall(sizes)
                self.assertIs(caught.exception.__class__, NoWall)

    def test_sizes_and_nights(self):
        for number in FAR:
            self.refused(self.wall(), NoSize, "come", number, 1)
            self.refused(self.wall(), NoSize, "come", number, number)
            self.refused(self.wall(), NoNights, "come", 1, number)

    def test_parcels(self):
        for number in FAR:
            for method in ("fetch", "size_of", "left"):
                self.refused(self.wall(), NoParcel, method, number)
            self.refused(self.wall(), NoParcel, "move", number, 1)
            self.refused(self.wall(), NoParcel, "move", number, number)

    def test_boxes(self):
        for number in FAR:
            self.refused(self.wall(), NoBox, "move", 0, number)


class RefusedOnlyWhereNothingFits(WallCase):
    def come_or_hold_against_all(self, sizes, parcels):
        wall = Wall(sizes)
        inside = []
        for size in parcels:
            try:
                wall.come(size, 1)
            except NoBox:
                self.assertFalse(fits_by_trying(sizes, inside + [size]), (sizes, inside, size))
                self.assertEqual(fit(sizes, inside + [size])[0], "many")
            else:
                inside.append(size)
                self.assertEqual(fit(sizes, inside)[0], "boxes")

    def test_all_small_walls_and_rows_of_parcels(self):
        for boxes in range(1, 4):
            for sizes in product((1, 2, 5, 9), repeat=boxes):
                for parcels in product((1, 2, 6, 9), repeat=boxes + 1):
                    self.come_or_hold_against_all(list(sizes), list(parcels))

    def test_greater_walls(self):
        for seed in range(60):
            sizes = mixed_sizes(seed, 4 + seed % 5)
            self.come_or_hold_against_all(sizes, mixed_sizes(seed + 1000, 12))


if __name__ == "__main__":
    unittest.main()
