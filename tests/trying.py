"""What several tests need: slow and plain answers, found by trying all choices, and walls to ask."""

from itertools import combinations

from parcelwall.wall import Wall

# Of more figures than Python writes into a text.
FAR = (10 ** 5000, -10 ** 5000)


def fits_by_trying(sizes, parcels):
    if not parcels:
        return True
    for box, size in enumerate(sizes):
        if size >= parcels[0] and fits_by_trying(sizes[:box] + sizes[box + 1:], parcels[1:]):
            return True
    return False


def most_by_trying(sizes, parcels):
    for number in range(len(parcels), 0, -1):
        for chosen in combinations(parcels, number):
            if fits_by_trying(sizes, list(chosen)):
                return number
    return 0


def next_fillings(sizes, inside):
    """What the boxes hold (parcels' sizes or None) behind each single move that may be done."""
    for start, parcel in enumerate(inside):
        for end, other in enumerate(inside):
            if parcel is not None and other is None and parcel <= sizes[end]:
                after = list(inside)
                after[start], after[end] = None, parcel
                yield tuple(after)


def fewest_by_trying(sizes, inside, size):
    """How many moves make room at the least, over all ways of moving; None where no moves do."""
    seen = {tuple(inside)}
    reached = [tuple(inside)]
    number = 0
    while reached:
        for filling in reached:
            if any(parcel is None and box >= size for box, parcel in zip(sizes, filling)):
                return number
        found = {after for filling in reached for after in next_fillings(sizes, filling)}
        reached = sorted(found - seen, key=str)
        seen |= found
        number += 1
    return None


def at_least(sizes, bound):
    return len([size for size in sizes if size >= bound])


def below(sizes, bound):
    return len([size for size in sizes if size < bound])


def mixed_sizes(seed, length):
    """Sizes from 1 to 9 that look mixed and are the same in every run."""
    found = []
    for step in range(length):
        seed = (seed * 75 + 74) % 65537
        found.append(seed // 11 % 9 + 1)
    return found


def told(wall):
    """All that a wall tells of itself, to be held against a later look."""
    parcels = [parcel for parcel in wall.held() if parcel is not None]
    details = [(parcel, wall.size_of(parcel), wall.left(parcel)) for parcel in parcels]
    return (wall.sizes(), wall.held(), wall.free(), wall.day(), details)


def wall_with(sizes, inside):
    """A wall whose boxes hold parcels of the sizes told, or nothing where None is told."""
    wall = Wall(sizes)
    # From the last box down and behind one that is gone, so that no parcel's number is its box's.
    wall.come(1, 1)
    wall.night()
    for box in reversed(range(len(sizes))):
        if inside[box] is not None:
            parcel = wall.come(inside[box], 9)
            if wall.held()[box] is None:
                wall.move(parcel, box)
    return wall
