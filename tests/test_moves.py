import inspect
import unittest
from itertools import combinations_with_replacement, product

from parcelwall.errors import NoSize
from parcelwall.fits import fit
from parcelwall.moves import room_for
from parcelwall.wall import Wall
from tests.trying import FAR, at_least, fewest_by_trying, mixed_sizes, told, wall_with


def fillings(sizes):
    """All that the boxes can hold, told by sizes, out of a few that lie at, below and far below a box's."""
    choices = [[None] + sorted({1, max(1, box - 1), box}) for box in sizes]
    return product(*choices)


def mixed_filling(seed, sizes):
    """Boxes filled as they come from a seed, some of them empty."""
    wished = mixed_sizes(seed, len(sizes))
    skipped = mixed_sizes(seed + 500, len(sizes))
    return [None if skip > 7 else min(box, wish) for box, wish, skip in zip(sizes, wished, skipped)]


def chain(least, boxes):
    """Boxes of sizes that go up by one, each but the least with a parcel one less than its box."""
    sizes = list(range(least, least + boxes))
    return wall_with(sizes, [None] + [size - 1 for size in sizes[1:]])


class RoomCase(unittest.TestCase):
    def check_moves(self, wall, size, moves):
        self.assertIs(moves.__class__, list)
        for move in moves:
            self.assertIs(move.__class__, tuple)
            self.assertEqual([part.__class__ for part in move], [int, int])
            wall.move(*move)
        sizes = wall.sizes()
        self.assertTrue([box for box in wall.free() if sizes[box] >= size])

    def check_many(self, sizes, inside, size, bound):
        self.assertIs(bound.__class__, int)
        self.assertIn(bound, range(1, 10))
        parcels = [parcel for parcel in inside if parcel is not None]
        self.assertGreater(at_least(parcels + [size], bound), at_least(sizes, bound))

    def check_room(self, sizes, inside, size):
        """Gives back how many moves were told, or None where none make room."""
        wall = wall_with(sizes, inside)
        before = told(wall)
        answer = room_for(wall, size)
        self.assertEqual(told(wall), before)
        self.assertIs(answer.__class__, tuple)
        self.assertEqual(len(answer), 2)
        if answer[0] == "moves":
            self.check_moves(wall, size, answer[1])
            return len(answer[1])
        self.assertEqual(answer[0], "many")
        self.check_many(sizes, inside, size, answer[1])
        return None


class Interface(unittest.TestCase):
    def test_arguments_have_their_names(self):
        self.assertEqual(list(inspect.signature(room_for).parameters), ["wall", "size"])
        self.assertEqual(room_for(wall=Wall([1]), size=1), ("moves", []))


class Moves(RoomCase):
    def test_no_moves_where_an_empty_box_holds_it(self):
        self.assertEqual(room_for(Wall([3]), 3), ("moves", []))
        self.assertEqual(room_for(Wall([3]), 1), ("moves", []))
        self.assertEqual(room_for(wall_with([9, 2, 5], [9, None, None]), 4), ("moves", []))
        self.assertEqual(room_for(wall_with([9, 2, 5], [1, 1, None]), 5), ("moves", []))

    def test_where_only_one_move_can_be(self):
        wall = Wall([2, 5])
        wall.come(2, 9)
        wall.move(0, 1)
        self.assertEqual(room_for(wall, 5), ("moves", [(0, 0)]))
        self.assertEqual(room_for(wall, 3), ("moves", [(0, 0)]))
        self.assertEqual(room_for(wall, 2), ("moves", []))

    def test_the_first_move_told_is_the_first_one_done(self):
        wall = chain(3, 3)
        self.assertEqual(wall.held(), [None, 2, 1])
        self.assertEqual(room_for(wall, 5), ("moves", [(2, 0), (1, 1)]))
        self.assertEqual(room_for(wall, 4), ("moves", [(2, 0)]))

    def test_a_short_way_beside_a_long_one(self):
        # The parcel of size 1 in the box of 9 can go straight to the empty box of 1.
        wall = wall_with([1, 2, 3, 4, 9], [None, 1, 2, 3, 1])
        parcel = wall.held()[4]
        self.assertEqual(room_for(wall, 9), ("moves", [(parcel, 0)]))

    def test_a_chain_through_all_boxes(self):
        for boxes in range(1, 9):
            for least in range(1, 11 - boxes):
                with self.subTest(boxes=boxes, least=least):
                    wall = chain(least, boxes)
                    way, moves = room_for(wall, least + boxes - 1)
                    self.assertEqual((way, len(moves)), ("moves", boxes - 1))
                    self.check_moves(wall, least + boxes - 1, moves)
                    wall.come(least + boxes - 1, 1)
                    self.assertEqual(wall.free(), [])

    def test_the_room_is_there_for_a_parcel_that_comes(self):
        wall = wall_with([4, 2, 3], [1, None, 3])
        for parcel, box in room_for(wall, 4)[1]:
            wall.move(parcel, box)
        self.assertEqual(wall.held()[0], None)
        wall.come(4, 1)
        self.assertEqual(wall.free(), [])


class Many(RoomCase):
    def test_a_full_wall(self):
        for sizes in ([1], [9], [5, 5], [9] * 8, [1, 2, 3, 4, 5, 6, 7, 8]):
            for inside, size in product((sizes, [1] * len(sizes)), range(1, 10)):
                with self.subTest(sizes=sizes, inside=inside, size=size):
                    self.assertIsNone(self.check_room(sizes, inside, size))

    def test_no_box_is_as_great(self):
        self.assertEqual(room_for(Wall([8, 8]), 9), ("many", 9))
        self.assertEqual(room_for(Wall([1]), 2), ("many", 2))

    def test_an_empty_box_that_none_can_use(self):
        self.assertEqual(room_for(wall_with([1, 5], [None, 5]), 5)[0], "many")
        self.assertIsNone(self.check_room([1, 5], [None, 5], 5))
        self.assertIsNone(self.check_room([1, 5], [None, 2], 5))
        self.assertEqual(room_for(wall_with([1, 5], [None, 2]), 2), ("many", 2))

    def test_where_only_one_size_can_be(self):
        self.assertEqual(room_for(wall_with([1], [1]), 1), ("many", 1))
        self.assertEqual(room_for(wall_with([9], [9]), 9)[0], "many")
        # Of 4 or more there are two parcels and a box; of any other size or more not too many.
        self.assertEqual(room_for(wall_with([3, 9, 2], [None, 4, None]), 4), ("many", 4))
        self.assertEqual(room_for(wall_with([3, 9, 2], [None, 4, None]), 9), ("many", 4))


class AgainstAllWays(RoomCase):
    def test_all_small_walls(self):
        numbers = {}
        for boxes in range(1, 5):
            for sizes in combinations_with_replacement((1, 2, 3, 4, 9), boxes):
                for inside, size in product(fillings(sizes), (1, 2, 3, 4, 5, 9)):
                    number = self.check_room(list(sizes), list(inside), size)
                    self.assertEqual(number, fewest_by_trying(sizes, inside, size), (sizes, inside, size))
                    numbers[number] = True
        self.assertEqual(sorted(numbers, key=str), [0, 1, 2, 3, None])

    def test_greater_walls(self):
        numbers = {}
        for seed in range(400):
            sizes = mixed_sizes(seed, 5 + seed % 2)
            inside = mixed_filling(seed + 2000, sizes)
            for size in range(1, 10):
                number = self.check_room(sizes, inside, size)
                self.assertEqual(number, fewest_by_trying(sizes, inside, size), (sizes, inside, size))
                numbers[number] = True
        self.assertLessEqual({0, 1, 2, None}, set(numbers))

    def test_the_greatest_walls_have_room_where_all_fit_at_once(self):
        for seed in range(300):
            sizes = mixed_sizes(seed, 8)
            inside = mixed_filling(seed + 3000, sizes)
            parcels = [parcel for parcel in inside if parcel is not None]
            for size in range(1, 10):
                fits = fit(sizes, parcels + [size])[0] == "boxes"
                self.assertEqual(self.check_room(sizes, inside, size) is not None, fits, (sizes, inside, size))


class Refused(RoomCase):
    def refused(self, wall, size):
        before = told(wall)
        with self.assertRaises(NoSize) as caught:
            room_for(wall, size)
        self.assertIs(caught.exception.__class__, NoSize)
        self.assertEqual(told(wall), before)

    def walls(self):
        return (Wall([9, 9]), wall_with([9, 1], [9, 1]), chain(2, 8))

    def test_sizes_beyond_the_edges(self):
        for size in (0, 10, -1, 11, 100):
            for wall in self.walls():
                with self.subTest(size=size, sizes=wall.sizes()):
                    self.refused(wall, size)

    def test_sizes_of_very_many_figures(self):
        for size in FAR:
            for wall in self.walls():
                self.refused(wall, size)

    def test_sizes_at_the_edges(self):
        for size in (1, 9):
            self.assertEqual(room_for(Wall([9]), size), ("moves", []))
        self.assertEqual(room_for(Wall([1]), 1), ("moves", []))
        self.assertEqual(room_for(Wall([1]), 9)[0], "many")


class AskersOwn(RoomCase):
    def test_asking_moves_nothing_and_uses_no_number(self):
        wall = chain(1, 8)
        came = max(parcel for parcel in wall.held() if parcel is not None) + 1
        before = told(wall)
        for size in range(1, 10):
            room_for(wall, size)
            self.assertEqual(told(wall), before)
        self.assertEqual(wall.come(1, 1), came)

    def test_asked_twice_also_behind_a_change_of_what_was_told(self):
        for wall, size in ((Wall([3]), 3), (chain(1, 8), 8), (chain(1, 8), 4)):
            with self.subTest(sizes=wall.sizes(), size=size):
                before = told(wall)
                first = room_for(wall, size)
                kept = list(first[1])
                second = room_for(wall, size)
                self.assertIsNot(first[1], second[1])
                first[1].append((7, 7))
                first[1].reverse()
                self.assertEqual(second, ("moves", kept))
                self.assertEqual(room_for(wall, size), second)
                first[1].clear()
                self.assertEqual(room_for(wall, size), second)
                self.assertEqual(told(wall), before)

    def test_what_was_told_does_not_follow_the_wall(self):
        wall = chain(1, 3)
        answer = room_for(wall, 3)
        kept = list(answer[1])
        self.check_moves(wall, 3, answer[1])
        self.assertEqual(answer, ("moves", kept))
        self.assertEqual(room_for(wall, 3), ("moves", []))

    def test_the_wall_goes_on_as_without_asking(self):
        asked, other = chain(1, 4), chain(1, 4)
        room_for(asked, 4)
        for wall in (asked, other):
            wall.night()
            wall.fetch(2)
            wall.come(1, 3)
        self.assertEqual(told(asked), told(other))


if __name__ == "__main__":
    unittest.main()
