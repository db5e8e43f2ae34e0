"""Logs: deeds that are done on an empty wall, one after the other."""

from parcelwall.errors import NoBox, NoNights, NoParcel, NoSize
from parcelwall.wall import Wall


def replay(sizes, deeds):
    wall = Wall(sizes)
    answers = []
    for deed in deeds:
        answers.append(answer_to(wall, deed))
    return (answers, wall.held())


def answer_to(wall, deed):
    try:
        return done(wall, deed)
    except NoSize:
        return "NoSize"
    except NoNights:
        return "NoNights"
    except NoBox:
        return "NoBox"
    except NoParcel:
        return "NoParcel"


def done(wall, deed):
    if deed[0] == "come":
        return wall.come(deed[1], deed[2])
    if deed[0] == "fetch":
        return wall.fetch(deed[1])
    return wall.night()
