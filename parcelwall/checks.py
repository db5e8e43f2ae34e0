"""What several files refuse alike: walls, sizes and nights out of their bounds.

No error of the program tells a number that was handed in: Python writes none of very many figures, and
its own error would come in the place of the refusal.
"""

from parcelwall.errors import NoNights, NoSize, NoWall

MOST_BOXES = 8
LEAST = 1
GREATEST = 9


def in_bounds(number):
    return LEAST <= number <= GREATEST


def check_wall(sizes):
    if len(sizes) < 1 or len(sizes) > MOST_BOXES:
        raise NoWall(f"a wall has 1 to {MOST_BOXES} boxes")
    for size in sizes:
        if not in_bounds(size):
            raise NoWall(f"a box has a size from {LEAST} to {GREATEST}")


def check_size(size):
    if not in_bounds(size):
        raise NoSize(f"a parcel has a size from {LEAST} to {GREATEST}")


def check_nights(nights):
    if not in_bounds(nights):
        raise NoNights(f"a parcel is kept {LEAST} to {GREATEST} nights")
