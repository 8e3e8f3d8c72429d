"""A desk that keeps a pair and answers lines."""

from shortsteps.errors import NoLine, NoNumber, NoPair
from shortsteps.grids import need_pair, room
from shortsteps.parts import flat
from shortsteps.points import many_of, nearest
from shortsteps.shapes import UNIT, shape
from shortsteps.short import is_short, least_points, moved
from shortsteps.texts import is_number_text, number_of, show, show_number, show_point
from shortsteps.turns import keepers

GREATEST = 99

# What each line has behind its first word: N stands for a number from 0 on, X
# and Y for any one.
LINES = {
    "pair": ("X,Y", "X,Y"), "turn": (), "about": (), "less": ("X",), "back": (),
    "told": (), "room": (), "short": (), "shape": (), "least": (), "keepers": (), "flat": (),
    "many": ("N",), "near": ("X,Y",),
}

DEEDS = ("pair", "turn", "about", "less")


class Desk:
    """A desk: it keeps a pair, and those that were kept before each deed that stands."""

    def __init__(self):
        self.pair = UNIT
        self.earlier = []

    def say(self, line):
        """What is answered to a line, once it is done where it tells a deed."""
        words = read_line(line)
        if words[0] in DEEDS:
            self.do(words)
        elif words[0] == "back":
            self.undo()
        else:
            return answer(self.pair, words)
        return show(self.pair)

    def do(self, words):
        """Do the deed of a line."""
        pair = pair_after(self.pair, words)
        need_desk_pair(pair)
        self.earlier.append(self.pair)
        self.pair = pair

    def undo(self):
        """Undo the last deed that stands."""
        if self.earlier == []:
            raise NoNumber("nothing stands that can be undone")
        self.pair = self.earlier.pop()


def read_line(line):
    """The words of a line, a list, its numbers and points read."""
    if not isinstance(line, str):
        raise NoLine("this is no text")
    words = line.split(" ")
    word, rest = words[0], words[1:]
    if word not in LINES or len(rest) != len(LINES[word]):
        raise NoLine("this is none of the lines")
    return [word] + [read_word(part, form) for part, form in zip(rest, LINES[word])]


def read_word(word, form):
    """The number or point that a word of a line tells."""
    if form == "X,Y":
        return read_point(word)
    return read_number(word, 0 if form == "N" else -GREATEST)


def read_point(word):
    """The point of the plane that a word of a line tells."""
    parts = word.split(",")
    if len(parts) != 2:
        raise NoLine("a point is not written as it should be")
    return tuple([read_number(part, -GREATEST) for part in parts])


def read_number(part, least):
    """The number of at most two figures that a part of a line tells."""
    if not is_number_text(part):
        raise NoLine("a number is not written as it should be")
    number = number_of(part)
    if number < least or number > GREATEST:
        raise NoLine("a number of the line is too great or too small")
    return number


def pair_after(pair, words):
    """What comes of a pair by the deed of a line."""
    if words[0] == "pair":
        return tuple(words[1:])
    # The other deeds are moves, and called as these are.
    return moved(pair, [tuple(words)])


def need_desk_pair(thing):
    """Refuse what is no pair of numbers of at most two figures."""
    need_pair(thing)
    if not all(abs(number) <= GREATEST for step in thing for number in step):
        raise NoPair("a number of the pair has too many figures")


def answer(pair, words):
    """What is answered to a line that asks something of the pair."""
    match words:
        case ["told"]:
            return show(pair)
        case ["room"]:
            return show_number(room(pair))
        case ["short"]:
            return "yes" if is_short(pair) else "no"
        case ["shape"]:
            return " ".join([show_number(part) for part in shape(pair)])
        case ["least"]:
            return show_points(least_points(pair))
        case ["keepers"]:
            return show_number(len(keepers(pair)))
        case ["flat"]:
            return show(flat(pair))
        case ["many", number]:
            return show_number(many_of(pair, number))
        case ["near", point]:
            return show_points(nearest(pair, point))


def show_points(points):
    """Points as a text."""
    if points == []:
        return "none"
    return " ".join([show_point(point) for point in points])
