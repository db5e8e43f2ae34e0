import inspect
import unittest
from itertools import product

from parcelwall.errors import NoWall, WallError
from parcelwall.log import replay
from parcelwall.wall import Wall
from tests.trying import FAR, mixed_sizes

COME, FETCH, NIGHT = ("come", 1, 9), ("fetch", 0), ("night",)


def done_by_hand(sizes, deeds):
    """The answers and what the boxes hold, found by asking a wall deed by deed."""
    wall = Wall(sizes)
    answers = []
    for deed in deeds:
        try:
            answers.append(getattr(wall, deed[0])(*deed[1:]))
        except WallError as refusal:
            answers.append(refusal.__class__.__name__)
    return (answers, wall.held())


def mixed_deeds(seed, length):
    """Deeds of all three sorts, some to be refused, that are the same in every run."""
    deeds = []
    rows = zip(*[mixed_sizes(seed + shift, length) for shift in (0, 700, 1400)])
    for place, (sort, first, second) in enumerate(rows):
        if sort <= 5:
            deeds.append(("come", first + (sort == 5), second - (sort == 4)))
        elif sort <= 7:
            deeds.append(("fetch", place // 2 - first // 2))
        else:
            deeds.append(("night",))
    return deeds


class Interface(unittest.TestCase):
    def test_arguments_have_their_names(self):
        self.assertEqual(list(inspect.signature(replay).parameters), ["sizes", "deeds"])
        self.assertEqual(replay(sizes=[1], deeds=[COME]), ([0], [0]))

    def test_kinds(self):
        answer = replay([2], [COME, ("fetch", 0), NIGHT, ("fetch", 0)])
        self.assertIs(answer.__class__, tuple)
        self.assertEqual([part.__class__ for part in answer], [list, list])
        self.assertEqual([part.__class__ for part in answer[0]], [int, int, list, str])


class Deeds(unittest.TestCase):
    def test_each_deed(self):
        self.assertEqual(replay([3, 2], [("come", 2, 1)]), ([0], [None, 0]))
        self.assertEqual(replay([3, 2], [("come", 2, 1), ("fetch", 0)]), ([0, 1], [None, None]))
        self.assertEqual(replay([3, 2], [("come", 2, 1), ("night",)]), ([0, [0]], [None, None]))
        self.assertEqual(replay([3, 2], [("come", 2, 2), ("night",)]), ([0, []], [None, 0]))
        self.assertEqual(replay([3, 2], [("night",)]), ([[]], [None, None]))

    def test_a_log_of_several_days(self):
        deeds = [
            ("come", 5, 2), ("come", 5, 1), ("come", 2, 3), ("night",), ("come", 9, 1), ("fetch", 2),
            ("come", 1, 9), ("night",), ("night",), ("fetch", 4),
        ]
        answers = [0, 1, 2, [1], 3, 0, 4, [0, 3], [], 0]
        self.assertEqual(replay([3, 5, 9], deeds), (answers, [None, None, None]))
        self.assertEqual(replay([3, 5, 9], deeds[:-1]), (answers[:-1], [4, None, None]))

    def test_no_deeds(self):
        for boxes in (1, 8):
            self.assertEqual(replay([4] * boxes, []), ([], [None] * boxes))

    def test_sixty_deeds_and_more(self):
        for number in (59, 60, 61, 75, 120):
            with self.subTest(number=number):
                deeds = [("come", 1, 1), ("night",)] * number
                wanted = [parcel if even else [parcel] for parcel in range(number) for even in (True, False)]
                self.assertEqual(replay([1], deeds[:number])[0], wanted[:number])

    def test_each_log_begins_on_an_empty_wall(self):
        for turn in range(3):
            self.assertEqual(replay([1, 1], [COME, NIGHT, COME]), ([0, [], 1], [0, 1]))

    def test_mixed_logs_held_against_a_wall(self):
        seen = {}
        for seed in range(200):
            sizes, deeds = mixed_sizes(seed + 50, 1 + seed % 8), mixed_deeds(seed, 61)
            with self.subTest(sizes=sizes, deeds=deeds):
                answer = replay(sizes, deeds)
                self.assertEqual(answer, done_by_hand(sizes, deeds))
                seen.update((part, True) for part in answer[0] if isinstance(part, str))
        self.assertEqual(sorted(seen), ["NoBox", "NoNights", "NoParcel", "NoSize"])


class RefusedDeeds(unittest.TestCase):
    def test_each_way_and_the_deeds_behind_it(self):
        for deed, name in (
            (("come", 0, 1), "NoSize"), (("come", 10, 1), "NoSize"), (("come", -1, 1), "NoSize"),
            (("come", 1, 0), "NoNights"), (("come", 1, 10), "NoNights"), (("come", 1, -1), "NoNights"),
            (("come", 4, 1), "NoBox"), (("come", 9, 9), "NoBox"),
            (("fetch", 2), "NoParcel"), (("fetch", -1), "NoParcel"), (("fetch", 100), "NoParcel"),
        ):
            with self.subTest(deed=deed):
                deeds = [("come", 3, 2), deed, ("come", 1, 1), deed, NIGHT, NIGHT, deed]
                self.assertEqual(
                    replay([3, 2], deeds),
                    ([0, name, 1, name, [1], [0], name], [None, None]),
                )

    def test_the_first_refusal_told_is_due(self):
        deeds = [("come", 1, 9), ("come", 0, 0), ("come", 10, 1), ("come", 2, 10), ("come", 1, 1)]
        self.assertEqual(replay([1], deeds)[0], [0, "NoSize", "NoSize", "NoNights", "NoBox"])

    def test_parcels_that_are_gone(self):
        deeds = [COME, ("fetch", 0), ("fetch", 0), ("come", 1, 1), NIGHT, ("fetch", 1)]
        self.assertEqual(replay([1], deeds)[0], [0, 0, "NoParcel", 1, [1], "NoParcel"])

    def test_nothing_but_refused_deeds(self):
        self.assertEqual(replay([1], [("fetch", 0)] * 60), (["NoParcel"] * 60, [None]))

    def test_numbers_of_very_many_figures(self):
        for number in FAR:
            for deed, name in (
                (("come", number, 1), "NoSize"), (("come", number, number), "NoSize"),
                (("come", 1, number), "NoNights"), (("fetch", number), "NoParcel"),
            ):
                answers, held = replay([1, 1], [COME, deed, COME])
                self.assertEqual([answers[0], answers[1], answers[2], held], [0, name, 1, [0, 1]])


class RefusedWalls(unittest.TestCase):
    def refused(self, sizes, deeds):
        handed = (list(sizes), list(deeds))
        with self.assertRaises(NoWall) as caught:
            replay(*handed)
        self.assertIs(caught.exception.__class__, NoWall)
        self.assertTrue(handed == (sizes, deeds))

    def test_no_wall(self):
        for sizes, deeds in product(
            ([], [5] * 9, [0], [10], [-1], [1, 10], [3, 0, 3]),
            ([], [COME], [("come", 0, 0)], [("fetch", 3), NIGHT]),
        ):
            with self.subTest(sizes=sizes, deeds=deeds):
                self.refused(sizes, deeds)

    def test_sizes_of_very_many_figures(self):
        for number in FAR:
            self.refused([1, number], [COME])


class AskersOwn(unittest.TestCase):
    deeds = [("come", 2, 1), NIGHT, NIGHT, ("come", 3, 0), NIGHT, ("fetch", 0), ("come", 1, 4), NIGHT]

    def test_what_is_handed_in_stays(self):
        sizes, deeds = [3, 2], list(self.deeds)
        answers, held = replay(sizes, deeds)
        answers.clear()
        held.clear()
        self.assertEqual((sizes, deeds), ([3, 2], self.deeds))

    def test_what_is_handed_in_may_be_changed_later(self):
        sizes, deeds = [3, 2], list(self.deeds)
        answer = replay(sizes, deeds)
        sizes.clear()
        deeds.clear()
        self.assertEqual(answer, replay([3, 2], self.deeds))

    def test_no_two_lists_are_one(self):
        sizes = [3, 2]
        found = [sizes]
        for turn in range(2):
            answers, held = replay(sizes, self.deeds)
            found.extend([answers, held] + [part for part in answers if isinstance(part, list)])
        self.assertEqual(len({id(part) for part in found}), 13)
        self.assertEqual(len(found), 13)

    def test_what_was_told_may_be_changed(self):
        wanted = replay([3, 2], self.deeds)
        answers, held = replay([3, 2], self.deeds)
        self.assertEqual(wanted, ([0, [0], [], "NoNights", [], "NoParcel", 1, []], [None, 1]))
        answers[2].append(7)
        self.assertEqual(answers, [0, [0], [7], "NoNights", [], "NoParcel", 1, []])
        self.assertEqual(held, [None, 1])
        answers[1].clear()
        answers.append(7)
        held[0] = 7
        self.assertEqual(replay([3, 2], self.deeds), wanted)


if __name__ == "__main__":
    unittest.main()
