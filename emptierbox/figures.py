"""Whole numbers written by their figures, and read back."""

from emptierbox.errors import NoText

# Python itself refuses to write or read some thousands of figures at once:
# so long numbers are written and read piece by piece.
PIECE_FIGURES = 60
PIECE = 10 ** 60


def show_number(number):
    """Tell a whole number's text."""
    if number < 0:
        return "-" + show_number(-number)
    pieces = []
    while number >= PIECE:
        number, piece = divmod(number, PIECE)
        pieces.append(str(piece).zfill(PIECE_FIGURES))
    pieces.append(str(number))
    return "".join(reversed(pieces))


def read_number(word):
    """Tell the whole number that a text writes."""
    figures = word.removeprefix("-")
    # Other scripts have figures too, which Python would read.
    if not figures.isascii() or not figures.isdigit():
        raise NoText("these aren't the figures of a number")
    if figures[0] == "0" and word != "0":
        raise NoText("a number has no noughts ahead, and nought no sign")
    if word == figures:
        return number_of(figures)
    return -number_of(figures)


def number_of(figures):
    """Tell the whole number of figures alone."""
    head = len(figures) % PIECE_FIGURES
    found = int("0" + figures[:head])
    for at in range(head, len(figures), PIECE_FIGURES):
        found = found * PIECE + int(figures[at:at + PIECE_FIGURES])
    return found
