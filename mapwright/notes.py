"""Worlds and maps written as texts, and read again."""

from mapwright.errors import BadNote
from mapwright.maps import is_map
from mapwright.worlds import is_world

BETWEEN_ROWS = " ; "
EMPTY_ROW = "-"
FIGURES = "0123456789"
FIGURES_AT_ONCE = 18


def world_text(world):
    """The text of a world: its sizes, then each act."""
    return rows_text((world[0],) + world[1])


def map_text(some):
    """The text of a map: its rows."""
    return rows_text(some)


def rows_text(rows):
    """The text of rows of numbers."""
    return BETWEEN_ROWS.join([row_text(row) for row in rows])


def row_text(row):
    """The text of one row of numbers."""
    if not row:
        return EMPTY_ROW
    return " ".join([str(number) for number in row])


def number_text(number):
    """The figures of a number from 0 on, however many they are."""
    # Python refuses to write a number of more than some thousand figures at once.
    rest = number
    told = []
    while rest >= 10 ** 18:
        told.append(str(rest % 10 ** 18).zfill(FIGURES_AT_ONCE))
        rest = rest // 10 ** 18
    told.append(str(rest))
    return "".join(reversed(told))


def world_read(pattern, text):
    """The world of the pattern that a text writes."""
    rows = rows_read(text)
    world = (rows[0], rows[1:])
    if not is_world(pattern, world):
        raise BadNote("the text writes no world of the pattern")
    return world


def map_read(pattern, one, other, text):
    """The map of the one world into the other that a text writes."""
    some = rows_read(text)
    if not is_map(pattern, one, other, some):
        raise BadNote("the text writes no map of the one world into the other")
    return some


def rows_read(text):
    """The rows of numbers that a text writes, one at least."""
    if not isinstance(text, str):
        raise BadNote("what is read is a text")
    return tuple([row_read(row) for row in text.split(BETWEEN_ROWS)])


def row_read(text):
    """The row of numbers that a text writes."""
    if text == EMPTY_ROW:
        return ()
    return tuple([number_read(word) for word in text.split(" ")])


def number_read(word):
    """The number that a word of figures writes."""
    # Other signs count as figures in other scripts, so isdigit alone would let them through.
    if word == "" or not all([sign in FIGURES for sign in word]):
        raise BadNote("a number is written by figures")
    if word[0] == "0" and word != "0":
        raise BadNote("a number has no 0 ahead")
    try:
        return int(word)
    except ValueError:
        raise BadNote("a number has fewer figures") from None
