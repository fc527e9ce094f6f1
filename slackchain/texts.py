"""Numbers read from texts; whatever else is handed in is refused with NoRow."""

from slackchain.errors import NoRow
from slackchain.ratios import common_divisor

FIGURES = "0123456789"
MOST_FIGURES = 60


def is_written_whole(text):
    if len(text) < 1 or len(text) > MOST_FIGURES:
        return False
    if not all([sign in FIGURES for sign in text]):
        return False
    return text == "0" or text[0] != "0"


def read_whole(text):
    if not isinstance(text, str) or not is_written_whole(text):
        raise NoRow("a whole number is one to sixty figures, without noughts ahead")
    return int(text)


def read_bottom(text):
    bottom = read_whole(text)
    if bottom < 2:
        raise NoRow("a bottom is written from 2 on")
    return bottom


def read_fraction(text):
    if not isinstance(text, str):
        raise NoRow("a number is a text")
    below = text.startswith("-")
    pieces = (text[1:] if below else text).partition("/")
    top = read_whole(pieces[0])
    bottom = 1 if pieces[1] == "" else read_bottom(pieces[2])
    if common_divisor(top, bottom) != 1:
        raise NoRow("a fraction is written in lowest terms")
    if below and top == 0:
        raise NoRow("0 is not below 0")
    return (-top if below else top, bottom)
