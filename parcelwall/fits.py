"""Which parcels fit an empty wall at once."""

from parcelwall.checks import GREATEST, LEAST, check_size, check_wall


def check_both(sizes, parcels):
    check_wall(sizes)
    for size in parcels:
        check_size(size)


def places_by_size(sizes):
    return sorted(range(len(sizes)), key=lambda place: sizes[place])


def fit(sizes, parcels):
    check_both(sizes, parcels)
    boxes = list(reversed(places_by_size(sizes)))
    chosen = [None for size in parcels]
    # Greatest to greatest: where a parcel finds its box too small or none left, it and those
    # ahead of it are one more than the boxes of its size or more.
    for rank, place in enumerate(reversed(places_by_size(parcels))):
        if rank >= len(boxes) or sizes[boxes[rank]] < parcels[place]:
            return ("many", parcels[place])
        chosen[place] = boxes[rank]
    return ("boxes", chosen)


def most(sizes, parcels):
    check_both(sizes, parcels)
    waiting = places_by_size(parcels)
    taken = []
    bound = LEAST
    # Least to least. A box that is too small for the least waiting parcel stays empty: all
    # parcels of its size or less are taken, and behind the last such box each box takes one.
    for box_size in sorted(sizes):
        if len(taken) == len(waiting):
            break
        place = waiting[len(taken)]
        if parcels[place] <= box_size:
            taken.append(place)
        else:
            bound = box_size + 1
    # Where all are taken, no boxes need be counted: no box has a size above the greatest.
    if len(taken) == len(waiting):
        bound = GREATEST + 1
    return (len(taken), sorted(taken), bound)
