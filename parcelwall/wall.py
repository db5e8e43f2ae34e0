"""A wall of boxes, and the parcels that wait in it."""

from parcelwall.checks import check_nights, check_size, check_wall
from parcelwall.errors import NoBox, NoParcel


class Parcel:
    def __init__(self, number, size, last_night):
        self.number = number
        self.size = size
        # Counted from the wall's first night, so that a move or a night need not touch it.
        self.last_night = last_night


class Wall:
    def __init__(self, sizes):
        check_wall(sizes)
        self.box_sizes = list(sizes)
        self.parcels = [None for size in sizes]
        # Kept beside the parcels, since the numbers of those that are gone don't come again.
        self.came = 0
        self.nights_gone = 0

    def sizes(self):
        return list(self.box_sizes)

    def held(self):
        return [None if parcel is None else parcel.number for parcel in self.parcels]

    def free(self):
        return [box for box, parcel in enumerate(self.parcels) if parcel is None]

    def day(self):
        return self.nights_gone

    def come(self, size, nights):
        check_size(size)
        check_nights(nights)
        box = self.least_box(size)
        number = self.came
        self.parcels[box] = Parcel(number, size, self.nights_gone + nights)
        self.came = number + 1
        return number

    def fetch(self, parcel):
        box = self.box_of(parcel)
        self.parcels[box] = None
        return box

    def size_of(self, parcel):
        return self.parcels[self.box_of(parcel)].size

    def left(self, parcel):
        return self.parcels[self.box_of(parcel)].last_night - self.nights_gone

    def night(self):
        self.nights_gone = self.nights_gone + 1
        sent = []
        for box in range(len(self.parcels)):
            parcel = self.parcels[box]
            if parcel is not None and parcel.last_night == self.nights_gone:
                self.parcels[box] = None
                sent.append(parcel.number)
        return sorted(sent)

    def move(self, parcel, box):
        start = self.box_of(parcel)
        if box not in self.boxes_for(self.parcels[start].size):
            raise NoBox("a parcel can be moved only to an empty box that holds it")
        self.parcels[box] = self.parcels[start]
        self.parcels[start] = None

    def boxes_for(self, size):
        return [box for box in self.free() if self.box_sizes[box] >= size]

    def least_box(self, size):
        boxes = [(self.box_sizes[box], box) for box in self.boxes_for(size)]
        if len(boxes) == 0:
            raise NoBox("no empty box holds the parcel")
        # Pairs compare by size first, then by number, as point 3 asks.
        return min(boxes)[1]

    def box_of(self, parcel):
        held = self.held()
        if parcel not in held:
            raise NoParcel("no parcel of this number is in the wall")
        return held.index(parcel)
