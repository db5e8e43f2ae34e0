"""Slow and plain answers of the tests' own, found by trying all choices."""

from itertools import combinations


def fits_by_trying(sizes, parcels):
    if not parcels:
        return True
    for box, size in enumerate(sizes):
        if size >= parcels[0] and fits_by_trying(sizes[:box] + sizes[box + 1:], parcels[1:]):
            return True
    return False


def most_by_trying(sizes, parcels):
    for number in range(len(parcels), 0, -1):
        for chosen in combinations(parcels, number):
            if fits_by_trying(sizes, list(chosen)):
                return number
    return 0


def at_least(sizes, bound):
    return len([size for size in sizes if size >= bound])


def below(sizes, bound):
    return len([size for size in sizes if size < bound])


def mixed_sizes(seed, length):
    """Sizes from 1 to 9 that look mixed and are the same in every run."""
    found = []
    for step in range(length):
        seed = (seed * 75 + 74) % 65537
        found.append(seed // 11 % 9 + 1)
    return found
