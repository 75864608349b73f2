"""Sums of squares as texts: written, and read back."""

from squarefield.errors import BadParts, BadText
from squarefield.numbers import MOST_NUMBER, are_parts_of, is_number, refuse_no_number

FIGURES = "0123456789"
MOST_PARTS = 4


def written(number, parts):
    refuse_no_number(number)
    if not are_few(parts) or not are_parts_of(parts, number):
        raise BadParts("no list of 1 to 4 whole numbers, none less than the one ahead, that make the number")
    right = " + ".join([f"{part}^2" for part in parts])
    return f"{number} = {right}"


def are_few(parts):
    return isinstance(parts, list) and 1 <= len(parts) <= MOST_PARTS


def read(text):
    if not isinstance(text, str):
        raise BadText("no text")
    sides = text.split(" = ")
    if len(sides) != 2:
        raise BadText("not one equals sign with a blank on either side")
    number = read_number(sides[0])
    parts = read_parts(sides[1])
    if not are_parts_of(parts, number):
        raise BadText("falling parts, or parts of another number")
    return (number, parts)


def read_parts(text):
    pieces = text.split(" + ")
    if len(pieces) > MOST_PARTS:
        raise BadText("more than 4 parts")
    return [read_part(piece) for piece in pieces]


def read_part(piece):
    if not piece.endswith("^2"):
        raise BadText("a part without its square sign")
    return read_number(piece[:-2])


# The length is looked at first: Python itself refuses very long figures, with another error.
def read_number(figures):
    if len(figures) == 0 or len(figures) > len(str(MOST_NUMBER)):
        raise BadText("no figures, or too many")
    if not all([sign in FIGURES for sign in figures]):
        raise BadText("a sign that is no figure")
    number = int(figures)
    if not is_number(number) or str(number) != figures:
        raise BadText("a number above 10000, or a needless nought")
    return number
