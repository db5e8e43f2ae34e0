"""Walls written as texts, and read from them."""

from parcelwall.checks import MOST_BOXES
from parcelwall.errors import NoNote
from parcelwall.wall import Wall

HEAD = "wall "
# Not asked with isdigit, which also takes 0 and figures of other scripts.
FIGURES = "123456789"


def written(wall):
    return HEAD + "".join([str(size) for size in wall.sizes()])


def read(text):
    if not is_note(text):
        raise NoNote("the text is no written wall")
    return Wall([int(figure) for figure in text[len(HEAD):]])


def is_note(text):
    figures = text[len(HEAD):]
    if not text.startswith(HEAD) or len(figures) < 1 or len(figures) > MOST_BOXES:
        return False
    return all([figure in FIGURES for figure in figures])
