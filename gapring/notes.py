"""Rings written as texts, and read from them."""

from gapring.errors import NoNote
from gapring.rings import check_ring

FIGURES = "0123456789"
MOST_FIGURES = 4


def shown(ring):
    check_ring(ring)
    return " ".join([str(number) for number in ring])


def read(text):
    # Split at each blank by itself: a blank too many leaves an empty word, which is refused.
    words = text.split(" ")
    for word in words:
        check_word(word)
    ring = [int(word) for word in words]
    check_ring(ring)
    return ring


def check_word(word):
    if word == "" or len(word) > MOST_FIGURES:
        raise NoNote(f"a number is written with 1 to {MOST_FIGURES} figures, and one blank between two")
    # Figure by figure, since int would take signs, underscores and blanks too.
    if not all([sign in FIGURES for sign in word]):
        raise NoNote("a note has no signs but figures and blanks")
    if word[0] == "0" and word != "0":
        raise NoNote("a number but nought itself does not begin with a nought")
