"""Steps written as texts, and read again."""

from shortsteps.errors import NoText
from shortsteps.grids import is_steps, need_steps

FIGURES = "0123456789"

# Python turns only numbers of some thousand figures into texts and back at
# once; what this program told may be greater, so it goes by blocks of figures.
BLOCK_FIGURES = 60
BLOCK = 10 ** 60


def show(steps):
    """Steps as a text: points with one blank between each two."""
    need_steps(steps)
    return " ".join([show_point(point) for point in steps])


def show_point(point):
    """A point as a text: its numbers with a comma between."""
    return ",".join([show_number(number) for number in point])


def show_number(number):
    """A whole number as a text."""
    rest = abs(number)
    blocks = []
    while rest >= BLOCK:
        rest, low = divmod(rest, BLOCK)
        blocks.append(str(low).zfill(BLOCK_FIGURES))
    blocks.append(str(rest))
    if number < 0:
        blocks.append("-")
    return "".join(blocks[::-1])


def read(text):
    """The steps that a text tells."""
    if not isinstance(text, str):
        raise NoText("this is no text")
    words = [word.split(",") for word in text.split(" ")]
    if not all(is_number_text(part) for word in words for part in word):
        raise NoText("a number is not written as it should be")
    steps = tuple([tuple([number_of(part) for part in word]) for word in words])
    if not is_steps(steps):
        raise NoText("the text tells no steps")
    return steps


def is_number_text(part):
    """Whether a part of a text is a whole number, written as it should be."""
    figures = part[1:] if part.startswith("-") else part
    if figures == "" or not all(sign in FIGURES for sign in figures):
        return False
    # A nought stands ahead only where it is the whole number, without a sign.
    return figures[0] != "0" or part == "0"


def number_of(part):
    """The whole number that a part of a text tells."""
    figures = part[1:] if part.startswith("-") else part
    number = 0
    start = 0
    # The first block holds what is left over by the full ones, maybe nothing.
    end = len(figures) % BLOCK_FIGURES
    while end <= len(figures):
        number = number * BLOCK + int("0" + figures[start:end])
        start = end
        end = end + BLOCK_FIGURES
    return -number if part.startswith("-") else number
