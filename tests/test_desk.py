"""Points 101 and 102: a desk, what it is told and asked, and what it refuses."""

import itertools
import math
import unittest

from shortsteps.desk import Desk
from shortsteps.errors import NoLine, NoNumber, NoPair, StepError
from shortsteps.texts import read, show
from tests.things import (
    PAIRS, POINTS, STRANGE, THREES, Case, det, dot, grid_points, products_by_words,
    shape_by_words, small_pairs)

SMALL = [
    ((1, 0), (0, 1)), ((3, 1), (-2, 4)), ((2, 0), (1, 1)), ((2, 1), (-1, 2)), ((1, 0), (0, 7)),
    ((5, 8), (3, 5)), ((0, -7), (4, 2)), ((8, 1), (1, 8)), ((2, 0), (1, 2)), ((-4, 0), (2, -5)),
    ((6, 0), (0, 6)), ((1, -6), (6, 1))]

ASKED = ["told", "room", "short", "shape", "least", "keepers", "flat", "many 10", "near 2,-3"]

LINES = ASKED + [
    "pair 3,1 -2,4", "pair -99,0 0,99", "turn", "about", "less 0", "less -7", "less 99", "back",
    "many 0", "many 60", "near 0,0", "near -99,99"]

# Lines but for the digits, which are not ASCII, or for a sign.
STRANGE_DIGITS = [
    "less \u0663", "less \u00b2", "less \uff11", "less \u0967", "many \u0661\u0660",
    "many \u00bd", "many \u2460", "near \u0661,2", "near 1,\uff12", "pair \uff11,0 0,1",
    "pair 1,0 0,\u0661", "less \u22121", "less \u20131", "near 1\u060c2", "near 1\uff0c2",
    "turn\u00a0", "less\u00a01", "less\u20031", "\uff54urn", "\u0442old", "tu\u0280n"]

NO_LINES = [
    "", " ", "  ", ",", "-", "0", "1,0", "1,0 0,1", "x", "Turn", "TURN", "tur", "turns", "turned",
    "none", "yes", "no", "less", "less ", "many", "many ", "near", "near ", "pair", "pair ",
    "pair 1,0", "pair 1,0 ", "pair 1,0 0,1 1,1", "pair 1,0,0,1", "pair 1 0 0 1", "pair (1,0) (0,1)",
    "pair 1,0, 0,1", "pair 1, 0 0,1", "pair ,1 0,1", "pair 1, 0,1", "pair 1,0 0", "pair 1 0,1",
    "pair 1,0,0 0,1", "pair 1,0 0,1,0", "pair 1;0 0;1", "pair 1.0 0,1", "pair 1,0 0,x",
    "pair 01,0 0,1", "pair 1,00 0,1", "pair 1,0 -0,1", "pair 1,-0 0,1", "pair +1,0 0,1",
    "pair 100,0 0,1", "pair 1,0 0,-100", "pair 1,0 0,1 back", "turn turn", "turn about", "turn 1",
    "turn 0", "about about", "about 1", "back back", "back 1", "back 0", "less 1 2", "less 1,2",
    "less x", "less k", "less +1", "less --1", "less 1-", "less - 1", "less -", "less -0", "less 00",
    "less 01", "less -01", "less -00", "less 007", "less 100", "less -100", "less 999", "less 1.0",
    "less 1e1", "less 0x1", "less 1_0", "less 1,", "less ,1", "less 10" + "0" * 40, "less less",
    "less 1\n", "less 1\t", "less\t1", "less\n1", "\tturn", "turn\n", "turn\r", "turn\r\n", "turn\x00",
    "turn\x0b", "turn\x0c", "told 1", "told told", "told pair", "room 1", "room 1,0", "short yes",
    "shape 1 0 1", "least 1", "keepers 2", "flat 1,0 0,1", "flat 1", "many -1", "many -0", "many 00",
    "many 01", "many 060", "many 100", "many 061", "many 1,2", "many 1 2", "many x", "many +1",
    "many 6 0", "many N", "near 1", "near 1 2", "near 1,2 3,4", "near 1,2,3", "near 1,", "near ,1",
    "near ,", "near 1,,2", "near 1, 2", "near -0,1", "near 1,-0", "near 01,1", "near 1,01",
    "near 100,1", "near 1,-100", "near x,y", "near X,Y", "near 1;2", "near +1,2", "near --1,2",
    "less 1 ", "turn;about", "turn,about", "told\ntold", "pair\t1,0\t0,1", "pair 1,0\n0,1"]


def text_of(points):
    return " ".join(",".join(str(number) for number in point) for point in points)


def is_short_by_words(pair):
    a, b, c = products_by_words(pair)
    return b >= 0 and 2 * b <= a <= c


def least_by_looking(pair):
    points = [point for point in grid_points(pair, 10) if point != (0, 0)]
    least = min(dot(point, point) for point in points)
    return [point for point in points if dot(point, point) == least]


def keepers_by_looking(pair):
    """How many pairs of points of the grid have the pair's products: so many ways keep it."""
    a, b, c = products_by_words(pair)
    points = grid_points(pair, math.isqrt(max(a, c)))
    ones = [point for point in points if dot(point, point) == a]
    others = [point for point in points if dot(point, point) == c]
    return sum(dot(one, other) == b for one in ones for other in others)


def flat_by_looking(pair):
    points = grid_points(pair, abs(det(pair)))
    d = min(y for x, y in points if x == 0 and y > 0)
    return (min(point for point in points if point[0] > 0 and 0 <= point[1] < d), (0, d))


def near_by_looking(pair, place):
    def far(point):
        return (point[0] - place[0]) ** 2 + (point[1] - place[1]) ** 2

    points = grid_points(pair, 18)
    least = min(far(point) for point in points)
    return [point for point in points if far(point) == least]


def line_of(pair):
    return "pair " + text_of(pair)


def desk_with(pair, *lines):
    desk = Desk()
    desk.say(line_of(pair))
    for line in lines:
        desk.say(line)
    return desk


class DeskCase(Case):

    def says(self, desk, line, told):
        now = desk.say(line)
        self.assertEqual(now, told, line)
        self.is_plain(now, str)

    def refuses(self, desk, kind, line):
        """The desk refuses with just this class, and what it keeps stays."""
        before = desk.say("told")
        with self.assertRaises(StepError) as caught:
            desk.say(line)
        self.assertIs(type(caught.exception), kind, line)
        self.assertEqual(desk.say("told"), before, line)


class DeedsTest(DeskCase):

    def test_101_at_first(self):
        for line, told in [
                ("told", "1,0 0,1"), ("room", "1"), ("short", "yes"), ("shape", "1 0 1"),
                ("least", "-1,0 0,-1 0,1 1,0"), ("keepers", "8"), ("flat", "1,0 0,1"),
                ("many 25", "12"), ("many 3", "0"), ("near 5,-3", "5,-3")]:
            self.says(Desk(), line, told)

    def test_101_pair(self):
        desk = Desk()
        for pair in itertools.chain(small_pairs(-2, 2), SMALL):
            self.says(desk, line_of(pair), text_of(pair))
            self.says(desk, "told", text_of(pair))

    def test_101_pairs_of_two_figures(self):
        desk = Desk()
        for pair in [((99, 0), (0, 99)), ((-99, 0), (0, -99)), ((99, -99), (99, 98)),
                     ((0, -99), (10, 0)), ((-10, 11), (-12, 13)), ((99, 98), (98, 97))]:
            self.says(desk, line_of(pair), text_of(pair))

    def test_101_two_points_that_are_no_pair(self):
        desk = desk_with(((3, 1), (-2, 4)))
        for line in ["pair 0,0 0,0", "pair 1,2 2,4", "pair 0,0 1,1", "pair 1,1 0,0",
                     "pair 99,-99 -99,99", "pair 3,-6 -1,2", "pair 5,0 7,0", "pair 1,0 1,0"]:
            self.refuses(desk, NoPair, line)
        self.says(desk, "back", "1,0 0,1")
        self.refuses(desk, NoNumber, "back")

    def test_101_moves(self):
        desk = desk_with(((3, 1), (-2, 4)))
        for line, told in [
                ("turn", "-2,4 3,1"), ("about", "-2,4 -3,-1"), ("less 2", "-2,4 1,-9"),
                ("less -2", "-2,4 -3,-1"), ("less 0", "-2,4 -3,-1"), ("turn", "-3,-1 -2,4"),
                ("less 3", "-3,-1 7,7"), ("about", "-3,-1 -7,-7"), ("less -10", "-3,-1 -37,-17"),
                ("about", "-3,-1 37,17"), ("told", "-3,-1 37,17")]:
            self.says(desk, line, told)

    def test_101_each_move_by_its_words(self):
        for (a, b), (c, d) in itertools.islice(small_pairs(-3, 3), 0, None, 7):
            pair = ((a, b), (c, d))
            self.says(desk_with(pair), "turn", text_of(((c, d), (a, b))))
            self.says(desk_with(pair), "about", text_of(((a, b), (-c, -d))))
            for k in (-30, -2, -1, 0, 1, 2, 10, 32):
                told = ((a, b), (c - k * a, d - k * b))
                self.says(desk_with(pair), f"less {k}", text_of(told))

    def test_101_numbers_that_come_to_99_and_beyond(self):
        for pair, line, told in [
                (((33, 0), (0, 1)), "less -3", "33,0 99,1"),
                (((33, 0), (0, 1)), "less 3", "33,0 -99,1"),
                (((50, 0), (49, 1)), "less -1", "50,0 99,1"),
                (((50, 0), (50, 1)), "less -1", None), (((50, 0), (-49, 1)), "less 1", "50,0 -99,1"),
                (((50, 0), (-50, 1)), "less 1", None), (((0, 1), (1, 99)), "less -1", None),
                (((0, 1), (1, 98)), "less -1", "0,1 1,99"), (((0, 1), (1, -99)), "less 1", None),
                (((0, 1), (1, -98)), "less 1", "0,1 1,-99"), (((0, 1), (1, 0)), "less 99", "0,1 1,-99"),
                (((0, 1), (1, 1)), "less 99", "0,1 1,-98"), (((0, 1), (1, -1)), "less 99", None),
                (((0, 1), (1, 0)), "less -99", "0,1 1,99"), (((0, 1), (1, 1)), "less -99", None),
                (((99, 99), (98, 99)), "less 2", None), (((99, 99), (99, 98)), "less 2", None),
                (((99, 99), (99, 98)), "less 1", "99,99 0,-1"),
                (((-99, 99), (99, 98)), "turn", "99,98 -99,99"),
                (((-99, 99), (99, 98)), "about", "-99,99 -99,-98"),
                (((99, 98), (99, 99)), "less 99", None), (((99, 98), (-99, -99)), "less -99", None)]:
            desk = desk_with(pair)
            if told is None:
                self.refuses(desk, NoPair, line)
                self.says(desk, "told", text_of(pair))
            else:
                self.says(desk, line, told)
                self.says(desk, "told", told)
                self.says(desk, "back", text_of(pair))
            self.says(desk, "back", "1,0 0,1")
            self.refuses(desk, NoNumber, "back")

    def test_101_back_till_nothing_stands(self):
        desk = Desk()
        self.refuses(desk, NoNumber, "back")
        for line, told in [
                ("turn", "0,1 1,0"), ("less 3", "0,1 1,-3"), ("back", "0,1 1,0"),
                ("about", "0,1 -1,0"), ("pair 3,1 -2,4", "3,1 -2,4"), ("back", "0,1 -1,0"),
                ("back", "0,1 1,0"), ("back", "1,0 0,1")]:
            self.says(desk, line, told)
        for _ in range(3):
            self.refuses(desk, NoNumber, "back")
        self.says(desk, "less 2", "1,0 -2,1")
        self.says(desk, "back", "1,0 0,1")
        self.refuses(desk, NoNumber, "back")

    def test_101_a_deed_that_changes_nothing_stands(self):
        desk = desk_with(((3, 1), (-2, 4)), "less 0", "pair 3,1 -2,4", "less 0")
        for _ in range(3):
            self.says(desk, "back", "3,1 -2,4")
        self.says(desk, "back", "1,0 0,1")
        self.refuses(desk, NoNumber, "back")

    def test_101_many_deeds_are_undone_one_by_one(self):
        desk = Desk()
        deeds = ["less 2", "turn", "about", "less -1", "turn", "pair 3,1 -2,4", "less 1", "about"]
        kept = [desk.say("told")]
        for number in range(200):
            kept.append(desk.say(deeds[number % len(deeds)]))
        self.assertGreater(len(set(kept)), 7)
        self.assertEqual(desk.say("told"), kept.pop())
        while kept:
            self.says(desk, "back", kept.pop())
        self.refuses(desk, NoNumber, "back")
        self.says(desk, "told", "1,0 0,1")

    def test_101_deeds_behind_an_undone_one(self):
        desk = desk_with(((2, 0), (1, 1)), "less 3", "back", "turn", "back", "back")
        self.says(desk, "told", "1,0 0,1")
        self.says(desk, "about", "1,0 0,-1")
        self.says(desk, "turn", "0,-1 1,0")
        self.says(desk, "back", "1,0 0,-1")
        self.says(desk, "less -4", "1,0 4,-1")
        self.says(desk, "back", "1,0 0,-1")
        self.says(desk, "back", "1,0 0,1")
        self.refuses(desk, NoNumber, "back")


class AskedTest(DeskCase):

    def test_101_what_is_asked(self):
        desk = desk_with(((3, 1), (-2, 4)))
        for line, told in [
                ("told", "3,1 -2,4"), ("room", "14"), ("short", "no"), ("shape", "10 2 20"),
                ("least", "-3,-1 3,1"), ("keepers", "2"), ("flat", "1,5 0,14"), ("many 10", "2"),
                ("many 9", "0"), ("many 0", "1"), ("near 2,2", "3,1"), ("near 0,0", "0,0")]:
            self.says(desk, line, told)
        desk.say("pair 2,0 0,2")
        for line, told in [
                ("room", "4"), ("short", "yes"), ("shape", "4 0 4"), ("keepers", "8"),
                ("least", "-2,0 0,-2 0,2 2,0"), ("near 1,-1", "0,-2 0,0 2,-2 2,0"),
                ("near 99,-99", "98,-100 98,-98 100,-100 100,-98"), ("near 0,1", "0,0 0,2")]:
            self.says(desk, line, told)
        desk.say("pair 99,0 0,-99")
        for line, told in [
                ("room", "9801"), ("shape", "9801 0 9801"), ("flat", "99,0 0,99"),
                ("least", "-99,0 0,-99 0,99 99,0"), ("near 49,-50", "0,-99"), ("many 60", "0")]:
            self.says(desk, line, told)

    def test_101_small_pairs_by_looking_at_the_points(self):
        seen = {}
        for pair in itertools.chain(itertools.islice(small_pairs(-3, 3), 0, None, 31), SMALL):
            desk = desk_with(pair)
            keepers = keepers_by_looking(pair)
            seen[(keepers, is_short_by_words(pair))] = True
            for line, told in [
                    ("told", text_of(pair)), ("room", str(abs(det(pair)))),
                    ("short", "yes" if is_short_by_words(pair) else "no"),
                    ("shape", " ".join(str(number) for number in shape_by_words(pair))),
                    ("least", text_of(least_by_looking(pair))), ("keepers", str(keepers)),
                    ("flat", text_of(flat_by_looking(pair)))]:
                self.says(desk, line, told)
            self.says(desk, "back", "1,0 0,1")
        for keepers, short in itertools.product((2, 4, 8), (True, False)):
            self.assertIn((keepers, short), seen)

    def test_101_many(self):
        for pair in SMALL:
            desk = desk_with(pair)
            lengths = [dot(point, point) for point in grid_points(pair, 8)]
            for number in range(61):
                self.says(desk, f"many {number}", str(lengths.count(number)))

    def test_101_many_60_and_beyond(self):
        for pair in [((1, 0), (0, 1)), ((2, 0), (0, 1)), ((7, 3), (-3, 7))]:
            desk = desk_with(pair)
            self.says(desk, "many 60", "0")
            for number in [61, 62, 70, 99]:
                self.refuses(desk, NoNumber, f"many {number}")
            for number in [100, 600, -1, -60, -61]:
                self.refuses(desk, NoLine, f"many {number}")
            self.says(desk, "back", "1,0 0,1")

    def test_101_near(self):
        for pair in SMALL:
            desk = desk_with(pair)
            for place in [(0, 0), (1, 1), (-2, 3), (4, 0), (0, -5), (3, 3), (-4, -1), (2, -1)]:
                told = near_by_looking(pair, place)
                self.says(desk, "near " + text_of([place]), text_of(told))

    def test_101_there_are_always_points(self):
        # The least and the nearest points are never none, so `none` is not told.
        for pair in SMALL + [((99, 98), (98, 97)), ((99, 0), (1, -99))]:
            desk = desk_with(pair)
            for line in ["least", "near 0,0", "near 99,99", "near -99,50", "near 1,-99"]:
                told = desk.say(line).split(" ")
                self.assertGreater(len(told), 0)
                for word in told:
                    self.assertRegex(word, "^(0|-?[1-9][0-9]*),(0|-?[1-9][0-9]*)$")

    def test_101_what_is_asked_changes_nothing(self):
        desk = desk_with(((2, 0), (1, 1)), "less 3", "turn")
        before = [desk.say(line) for line in ASKED]
        for line in ASKED * 3 + ASKED[::-1]:
            desk.say(line)
        self.assertEqual([desk.say(line) for line in ASKED], before)
        self.says(desk, "back", "2,0 -5,1")
        desk.say("least")
        desk.say("flat")
        self.says(desk, "back", "2,0 1,1")
        self.says(desk, "back", "1,0 0,1")
        desk.say("shape")
        self.refuses(desk, NoNumber, "back")

    def test_3_what_a_desk_told_is_read_again(self):
        desk = Desk()
        for pair in SMALL:
            self.assertEqual(read(desk.say(line_of(pair))), pair)
            self.assertEqual(show(read(desk.say("flat"))), desk.say("flat"))
            self.says(desk, "pair " + desk.say("flat"), text_of(flat_by_looking(pair)))


class RefusedTest(DeskCase):

    def test_102_lines_are_none_if_nearly_so(self):
        for line in LINES:
            words = line.split(" ")
            nearly = [
                " " + line, line + " ", "  " + line, line + "\n", line + "\t", "\t" + line,
                line + "\r", "\n" + line, line + "\x00", line.upper(), line.title(), line + ",",
                line + " " + line, line + " 1", line + " 1,0", line + "x", "x" + line, line + ";",
                line + "\u00a0", "\ufeff" + line, words[0] + "  " + " ".join(words[1:]),
                line + " x", line.replace(words[0], words[0][:-1], 1), "-" + line, line + "-"]
            if len(words) > 1:
                nearly += [
                    line.replace(" ", "  "), line.replace(" ", "\t"), line.replace(" ", "\n"),
                    line.replace(" ", ""), line.replace(" ", ","), line.replace(" ", "\u00a0"),
                    " ".join(words[:-1]), " ".join(words[1:]), " ".join(words[::-1]),
                    words[0] + " 0" + words[1] + line[len(words[0] + " " + words[1]):],
                    words[0] + " +" + words[1] + line[len(words[0] + " " + words[1]):],
                    line + "00", line.replace(" ", " \t")]
            desk = desk_with(((3, 1), (-2, 4)), "turn")
            for one in nearly:
                self.refuses(desk, NoLine, one)
            self.says(desk, "back", "3,1 -2,4")

    def test_102_no_lines(self):
        desk = desk_with(((3, 1), (-2, 4)), "about")
        for line in NO_LINES + STRANGE_DIGITS:
            self.refuses(desk, NoLine, line)
        self.says(desk, "back", "3,1 -2,4")
        self.says(desk, "back", "1,0 0,1")
        for line in NO_LINES + STRANGE_DIGITS:
            self.refuses(desk, NoLine, line)
        self.refuses(desk, NoNumber, "back")

    def test_102_numbers_just_as_told(self):
        for number in range(-120, 121):
            inside = -99 <= number <= 99
            for line in [f"less {number}", f"near {number},0", f"near 1,{number}",
                         f"pair 1,{number} 0,1", f"pair 1,0 {number},1"]:
                desk = Desk()
                if inside:
                    desk.say(line)
                else:
                    self.refuses(desk, NoLine, line)
            if number != 0:
                for written in [f"0{number}", f"+{number}", f"-0{abs(number)}", f"{number}.0"]:
                    self.refuses(Desk(), NoLine, f"less {written}")
                    self.refuses(Desk(), NoLine, f"near {written},1")
                    self.refuses(Desk(), NoLine, f"many {written}")

    def test_102_no_text(self):
        things = [thing for thing in STRANGE if not isinstance(thing, str)]
        desk = desk_with(((3, 1), (-2, 4)), "turn")
        for thing in things + POINTS + PAIRS + THREES + [
                ["turn"], ("turn",), ["less", 1], ("less", 1), b"turn", {"turn": 1}, [["turn"]],
                None, True, False, 3, ["told"], ("told",), {"told": "told"}, (), [], {}]:
            self.refuses(desk, NoLine, thing)
        self.says(desk, "back", "3,1 -2,4")

    def test_102_texts_of_other_things(self):
        desk = Desk()
        for thing in [thing for thing in STRANGE if isinstance(thing, str)]:
            if thing == "turn":
                self.says(desk, thing, "0,1 1,0")
            else:
                self.refuses(desk, NoLine, thing)

    def test_102_no_line_ahead_of_all_else(self):
        # Nothing stands, the points are no pair, the number is above 60.
        for line in ["back ", " back", "back 1", "back\n", "pair 0,0 0,0 ", "pair 0,0  0,0",
                     "pair 1,2 2,04", "pair 0,0 0,-0", "pair 0,0 0,100", "pair 1,2 2,4 3,6",
                     "many 61 ", "many  61", "many 061", "many 610", "many 61 61", "many 61\n"]:
            self.refuses(Desk(), NoLine, line)
        desk = desk_with(((50, 0), (50, 1)))
        for line in ["less -1 ", "less -01", "less  -1", "less -100", "less -1,0", "less -1\t"]:
            self.refuses(desk, NoLine, line)
        self.refuses(desk, NoPair, "less -1")

    def test_102_what_is_refused_changes_nothing(self):
        desk = desk_with(((50, 0), (50, 1)), "turn", "turn")
        before = [desk.say(line) for line in ASKED]
        for _ in range(2):
            self.refuses(desk, NoPair, "less -1")
            self.refuses(desk, NoPair, "pair 1,1 2,2")
            self.refuses(desk, NoNumber, "many 61")
            self.refuses(desk, NoLine, "less 100")
            self.refuses(desk, NoLine, None)
            self.assertEqual([desk.say(line) for line in ASKED], before)
        self.says(desk, "back", "50,1 50,0")
        self.refuses(desk, NoPair, "less -1")
        self.refuses(desk, NoPair, "less -99")
        self.says(desk, "back", "50,0 50,1")
        self.says(desk, "back", "1,0 0,1")
        self.refuses(desk, NoNumber, "back")

    def test_102_two_desks_have_nothing_in_common(self):
        one, other = Desk(), Desk()
        one.say("pair 3,1 -2,4")
        self.says(other, "told", "1,0 0,1")
        self.refuses(other, NoNumber, "back")
        other.say("turn")
        other.say("less 5")
        self.says(one, "told", "3,1 -2,4")
        one.say("turn")
        self.says(one, "back", "3,1 -2,4")
        self.says(one, "back", "1,0 0,1")
        self.refuses(one, NoNumber, "back")
        self.says(other, "told", "0,1 1,-5")
        self.says(Desk(), "told", "1,0 0,1")
        self.refuses(Desk(), NoNumber, "back")
        self.says(other, "back", "0,1 1,0")
        self.says(other, "back", "1,0 0,1")
        self.refuses(other, NoNumber, "back")

    def test_4_the_same_told_has_the_same_answers(self):
        lines = ["less 3", "about", "turn", "shape", "back", "flat", "pair 3,1 -2,4", "near 1,1"]
        told = [[desk.say(line) for line in lines] for desk in (Desk(), Desk(), Desk())]
        self.assertEqual(told[0], told[1])
        self.assertEqual(told[0], told[2])


if __name__ == "__main__":
    unittest.main()
