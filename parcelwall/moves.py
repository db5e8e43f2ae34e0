"""Which moves make room in a wall for one more parcel."""

from parcelwall.checks import check_size
from parcelwall.fits import fit


def room_for(wall, size):
    check_size(size)
    inside = [wall.size_of(parcel) for parcel in wall.held() if parcel is not None]
    fitting = fit(wall.sizes(), inside + [size])
    if fitting[0] == "many":
        return fitting
    return ("moves", fewest_moves(wall, size))


def fewest_moves(wall, size):
    sizes = wall.sizes()
    held = wall.held()
    # The boxes that are or can be made empty, those that take fewer moves first. Where all fit
    # at once, one of them holds the size: the box that the new parcel has in such a fit is
    # emptied into the box that its parcel has there, and so on. No box comes twice on this way,
    # so it ends at an empty one; and each parcel on it must be moved at least once.
    emptied = wall.free()
    moves_to = {}
    for box in emptied:
        moves_to[box] = []
    rank = 0
    while sizes[emptied[rank]] < size:
        hole = emptied[rank]
        for box, parcel in enumerate(held):
            if box not in moves_to and wall.size_of(parcel) <= sizes[hole]:
                moves_to[box] = moves_to[hole] + [(parcel, hole)]
                emptied.append(box)
        rank = rank + 1
    return moves_to[emptied[rank]]
