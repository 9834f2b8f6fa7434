"""Layouts written and read: the points' number and a colon, then a word for each block."""

from evenmeet.errors import NoText
from evenmeet.layouts import layout_of

FIGURES = "0123456789"
MOST_FIGURES = 4
EMPTY_BLOCK = "-"


def show_layout(M):
    return " ".join([str(M[0]) + ":"] + [block_shown(block) for block in M[1]])


def block_shown(block):
    if len(block) == 0:
        return EMPTY_BLOCK
    return ".".join([str(point) for point in block])


def read_layout(text):
    if not isinstance(text, str):
        raise NoText("this is no text")
    parted = text.partition(":")
    if parted[1] == "":
        raise NoText("there is no colon")
    points = number_read(parted[0])
    return layout_of(points, blocks_read(parted[2]))


def blocks_read(tail):
    if tail == "":
        return []
    if not tail.startswith(" "):
        raise NoText("there is no blank ahead of a block")
    return [block_read(word) for word in tail[1:].split(" ")]


def block_read(word):
    if word == EMPTY_BLOCK:
        return []
    return [number_read(part) for part in word.split(".")]


def number_read(word):
    if not is_number(word, MOST_FIGURES):
        raise NoText("this is no number in figures")
    return int(word)


def is_number(word, most_figures):
    # Not isdigit: it takes signs from beyond 0 to 9, too.
    if len(word) < 1 or len(word) > most_figures or not all([sign in FIGURES for sign in word]):
        return False
    return word == "0" or word[0] != "0"
