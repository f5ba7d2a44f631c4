"""Integers as Python writes them, however long they are."""

FIGURES = "0123456789"
# Python itself refuses to write or read much longer ones at once.
SHORT = 512
PIECE = 64


def written(number):
    """The text of an integer."""
    if number.bit_length() < SHORT:
        return str(number)
    rest = abs(number)
    pieces = []
    while rest > 0:
        rest, piece = divmod(rest, 10 ** 64)
        pieces.append(str(piece).zfill(PIECE))
    return ("-" if number < 0 else "") + "".join(pieces[::-1]).lstrip("0")


def read_integer(text):
    """The integer that is written so, None for what is not written as Python writes it."""
    figures = text[1:] if text.startswith("-") else text
    if not figures or not all([sign in FIGURES for sign in figures]):
        return None
    if figures.startswith("0") and text != "0":
        return None
    first = len(figures) % PIECE
    number = int("0" + figures[:first])
    for at in range(first, len(figures), PIECE):
        number = number * 10 ** 64 + int(figures[at:at + PIECE])
    return 0 - number if text.startswith("-") else number


def read_integers(words):
    """The list of the integers that words are, None if one of them is none."""
    numbers = [read_integer(word) for word in words]
    return None if any([number is None for number in numbers]) else numbers
