import inspect
import unittest
from itertools import product

from parcelwall.errors import NoSize, NoWall
from parcelwall.fits import fit, most
from tests.trying import FAR, at_least, below, fits_by_trying, mixed_sizes, most_by_trying

BOTH = (fit, most)


def small_choices():
    """Walls of up to three boxes with rows of up to four parcels, the edges 1 and 9 among them."""
    for boxes, number in product(range(1, 4), range(5)):
        for sizes in product((1, 2, 9), repeat=boxes):
            for parcels in product((1, 2, 3, 9), repeat=number):
                yield list(sizes), list(parcels)


def great_choices():
    """Walls of up to eight boxes with rows of up to twelve parcels."""
    for seed in range(300):
        yield mixed_sizes(seed, 1 + seed % 8), mixed_sizes(seed + 1000, seed % 13)


class FitsCase(unittest.TestCase):
    def check_boxes(self, sizes, parcels, boxes):
        self.assertIs(boxes.__class__, list)
        self.assertEqual(len(boxes), len(parcels))
        self.assertEqual(len(set(boxes)), len(boxes))
        for box, parcel in zip(boxes, parcels):
            self.assertIs(box.__class__, int)
            self.assertIn(box, range(len(sizes)))
            self.assertGreaterEqual(sizes[box], parcel)

    def check_fit(self, sizes, parcels):
        answer = fit(sizes, parcels)
        self.assertIs(answer.__class__, tuple)
        self.assertEqual(len(answer), 2)
        if answer[0] == "boxes":
            self.check_boxes(sizes, parcels, answer[1])
        else:
            self.assertEqual(answer[0], "many")
            self.assertIs(answer[1].__class__, int)
            self.assertIn(answer[1], range(1, 10))
            self.assertGreater(at_least(parcels, answer[1]), at_least(sizes, answer[1]))
        return answer[0]

    def check_most(self, sizes, parcels):
        answer = most(sizes, parcels)
        self.assertIs(answer.__class__, tuple)
        number, places, bound = answer
        self.assertEqual([number.__class__, places.__class__, bound.__class__], [int, list, int])
        self.assertEqual(len(places), number)
        self.assertEqual(places, sorted(set(places)))
        for place in places:
            self.assertIn(place, range(len(parcels)))
        self.assertTrue(fits_by_trying(sizes, [parcels[place] for place in places]))
        self.assertIn(bound, range(1, 11))
        # As many as this bound are also the most that can fit: every parcel that fits is
        # below it or lies in a box of it or more.
        self.assertEqual(below(parcels, bound) + at_least(sizes, bound), number)
        return number


class Interface(unittest.TestCase):
    def test_arguments_have_their_names(self):
        for function in BOTH:
            self.assertEqual(list(inspect.signature(function).parameters), ["sizes", "parcels"])

    def test_by_their_names(self):
        self.assertEqual(fit(sizes=[3], parcels=[2]), ("boxes", [0]))
        self.assertEqual(most(sizes=[3], parcels=[4, 2])[:2], (1, [1]))


class Fit(FitsCase):
    def test_where_only_one_answer_can_be(self):
        self.assertEqual(fit([2, 9, 5], [9, 1, 4]), ("boxes", [1, 0, 2]))
        self.assertEqual(fit([2], [3]), ("many", 3))
        self.assertEqual(fit([9], [9]), ("boxes", [0]))
        self.assertEqual(fit([1], [1]), ("boxes", [0]))
        self.assertEqual(fit([8], [9]), ("many", 9))
        self.assertEqual(fit([1], [1, 1]), ("many", 1))

    def test_no_parcels_fit_every_wall(self):
        self.assertEqual(fit([1], []), ("boxes", []))
        self.assertEqual(fit([9] * 8, []), ("boxes", []))

    def test_as_many_parcels_as_boxes_and_one_more(self):
        self.assertEqual(self.check_fit([4] * 8, [4] * 8), "boxes")
        self.assertEqual(self.check_fit([4] * 8, [4] * 9), "many")
        self.assertEqual(self.check_fit([4] * 8, [1] * 12), "many")

    def test_held_against_trying(self):
        for sizes, parcels in small_choices():
            with self.subTest(sizes=sizes, parcels=parcels):
                wanted = "boxes" if fits_by_trying(sizes, parcels) else "many"
                self.assertEqual(self.check_fit(sizes, parcels), wanted)

    def test_great_walls(self):
        ways = {}
        for sizes, parcels in great_choices():
            with self.subTest(sizes=sizes, parcels=parcels):
                way = self.check_fit(sizes, parcels)
                ways[way] = True
        self.assertEqual(sorted(ways), ["boxes", "many"])


class Most(FitsCase):
    def test_plain_ones(self):
        self.assertEqual(most([2, 9, 5], [9, 1, 4])[:2], (3, [0, 1, 2]))
        self.assertEqual(most([2, 2], [3, 2, 9, 1])[:2], (2, [1, 3]))
        self.assertEqual(most([2, 2], [3, 4])[:2], (0, []))

    def test_where_only_one_size_can_be(self):
        self.assertEqual(most([1], [2]), (0, [], 2))
        self.assertEqual(most([1], [1, 1])[2], 1)
        self.assertEqual(most([9, 9], [9]), (1, [0], 10))

    def test_no_parcels(self):
        self.assertEqual(most([9], []), (0, [], 10))
        self.assertEqual(self.check_most([1, 4], []), 0)

    def test_held_against_trying(self):
        for sizes, parcels in small_choices():
            with self.subTest(sizes=sizes, parcels=parcels):
                self.assertEqual(self.check_most(sizes, parcels), most_by_trying(sizes, parcels))

    def test_great_walls(self):
        for sizes, parcels in great_choices():
            with self.subTest(sizes=sizes, parcels=parcels):
                self.check_most(sizes, parcels)

    def test_all_fit_where_fit_says_so(self):
        for sizes, parcels in great_choices():
            with self.subTest(sizes=sizes, parcels=parcels):
                all_fit = most(sizes, parcels)[0] == len(parcels)
                self.assertEqual(all_fit, fit(sizes, parcels)[0] == "boxes")


class BothFunctions(FitsCase):
    def refused(self, kind, sizes, parcels):
        for function in BOTH:
            with self.subTest(function=function.__name__, sizes=sizes, parcels=parcels):
                handed = (list(sizes), list(parcels))
                with self.assertRaises(kind) as caught:
                    function(*handed)
                self.assertIs(caught.exception.__class__, kind)
                self.assertEqual(handed, (sizes, parcels))

    def test_no_wall(self):
        for sizes in ([], [5] * 9, [0], [10], [-1], [1, 10], [3, 0, 3]):
            self.refused(NoWall, sizes, [])
            self.refused(NoWall, sizes, [1])

    def test_no_size(self):
        for parcels in ([0], [10], [-1], [1, 10], [1, 0, 1], [9] * 12 + [10]):
            self.refused(NoSize, [9, 9], parcels)
            self.refused(NoSize, [1], parcels)

    def test_no_wall_ahead_of_no_size(self):
        for sizes, parcels in product(([], [5] * 9, [0], [10]), ([0], [10], [1, -1])):
            self.refused(NoWall, sizes, parcels)

    def test_numbers_of_very_many_figures(self):
        for number, function in product(FAR, BOTH):
            for kind, sizes, parcels in (
                (NoWall, [number], []), (NoWall, [1, number], [number]),
                (NoSize, [1], [number]), (NoSize, [1], [1, number]),
            ):
                with self.assertRaises(kind) as caught:
                    function(sizes, parcels)
                self.assertIs(caught.exception.__class__, kind)

    def test_more_than_twelve_parcels_are_not_refused(self):
        for number in (13, 16, 30):
            with self.subTest(number=number):
                parcels = mixed_sizes(number, number)
                self.assertEqual(self.check_fit([5] * 8, parcels), "many")
                self.check_most([5] * 8, parcels)

    def test_the_lists_handed_in_stay_as_they_were(self):
        for sizes, parcels in (([3, 1, 2], [2, 1, 3]), ([3, 1, 2], [9, 1, 3, 1]), ([1], [])):
            for function in BOTH:
                with self.subTest(function=function.__name__, sizes=sizes, parcels=parcels):
                    handed = (list(sizes), list(parcels))
                    function(*handed)
                    self.assertEqual(handed, (sizes, parcels))

    def test_what_is_told_is_the_askers_own(self):
        for function, sizes, parcels in product(BOTH, ([1, 2, 3], [1]), ([1], [])):
            with self.subTest(function=function.__name__, sizes=sizes, parcels=parcels):
                answer = function(sizes, parcels)
                self.assertIsNot(answer[1], sizes)
                self.assertIsNot(answer[1], parcels)
                again = function(sizes, parcels)
                answer[1].append(7)
                self.assertEqual(function(sizes, parcels), again)
                self.assertIsNot(again[1], answer[1])


if __name__ == "__main__":
    unittest.main()
