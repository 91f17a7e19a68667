"""[14]: texts of stops and ways."""

import random
import unittest

from fillerfed.errors import NoText, Wrong
from fillerfed.stoptexts import read_stops, read_way, show_stops, way_text
from samples import DEAD, HALL, LONE, any_values, check_new, raised, same_after, some_halls, some_stops

# Machines that are called like words of the texts.
WORDS = ((("belt", 1, ((1, 1),)), ("down", 2, ((2, 0),)), ("filler", 3, ()), ("machine", 1, ()), ("next", 1, ((1, 0),)), ("up", 1, ())),
         (("belt", "next", 2, 1), ("up", "next", 2, 2), ("next", "down", 1, 0), ("down", "filler", 3, 1), ("machine", "filler", 1, 1)), "filler")

BAD_STOPS = (
    "wash", "wash 0", "wash 0 0", "wash 0 0 1 1", "wash 0 0 1 #", "box 0 0 1", "Wash 0 0 1", "wash 0 2 1", "cap 0 1 1", "fill 0 0 1", "wash 0 0 0",
    "wash 0 0 -1", "wash -1 0 1", "wash 0 -1 1", "wash 0 0 +1", "wash 00 0 1", "wash 01 0 1", "wash 0 00 1", "wash 0 01 1", "wash 0 0 01",
    "wash 0 0 00", "wash 0 0 1234567890", "wash 1234567890 0 1", "wash 0 1234567890 1", "wash 0 0 one", "wash 0 0 1.0", "wash 0 0 1_0", "0 wash 0 1",
    "wash 0 0\t1", "wash\t0 0 1", "wash 0 0 1\r", "wash 0 0 \u0661", "wash 0 0 \u00b2", "stop wash 0 0 1", "wash, 0 0 1", "wash 0+0 0 1", "1",
)

BAD_WAYS = (
    "", " ", "#", "# fill", "box", "Fill", "0", "next", "next fill", "down 0", "up 0", "fill next fill", "fill fill", "fill nex", "fill Next",
    "fill down 0", "cap up 0", "wash down 1", "wash up 0", "fill up", "fill down", "fill up 2", "fill up 0 down 1", "fill up 0 up", "fill up 0 up 0",
    "fill up 00", "fill up 01", "fill up +0", "fill up -1", "fill up 1", "fill down 01", "fill down 1 next 1", "fill down 1 1", "fill next 0",
    "fill next next down", "fill up next", "fill up 0 next down", "fill down 1234567890", "fill down \u0661", "fill down 1 #", "fill over 1",
    "fill, down 1", "fill\tnext", "fill\n", "\nfill", "fill\nnext", "fill next\n", "fill \n next", "fill up 0\n", "fill up\n0", "fill down 1\n",
    "fill down 1 \n", "\n", "# a\nfill", "fill\r", "fill down 1 up", "fill up wash", "fill 1 down", "fill down1", "fill next2",
)


def some_way(dice, hall, many):
    """A WAY of so many ARCS."""
    begin = here = dice.choice(hall[0])[0]
    arcs = []
    for _ in range(many):
        leads = [(("next", here), here)]
        for index, (start, end, _, _) in enumerate(hall[1]):
            leads += [(("down", index), end)] * (start == here) + [(("up", index), start)] * (end == here)
        arc, here = dice.choice(leads)
        arcs.append(arc)
    return (begin, tuple(arcs))


class ShowStopsTest(unittest.TestCase):
    def test_in_the_order_of_keys(self):
        rows = [(("cap", 2, 0), 5), (("cap", 10, 0), 1), (("wash", 0, 0), 3), (("wash", 0, 1), 7), (("wash", 12, 0), 2)]
        text = "cap 2 0 5\ncap 10 0 1\nwash 0 0 3\nwash 0 1 7\nwash 12 0 2"
        dice = random.Random(9)
        for _ in range(20):
            self.assertEqual(same_after(self, show_stops, dict(rows)), text)
            dice.shuffle(rows)

    def test_none(self):
        self.assertEqual(show_stops({}), "")

    def test_beyond_nine_digits(self):
        self.assertEqual(show_stops({("cap", 10 ** 10, 0): 10 ** 11}), "cap 10000000000 0 100000000000")


class ReadStopsTest(unittest.TestCase):
    def check_line(self, hall, text, line):
        self.assertEqual(raised(self, NoText, read_stops, hall, text).line, line, text)

    def test_there_and_back(self):
        dice = random.Random(10)
        for hall in some_halls(10, 80) + [LONE, DEAD, WORDS]:
            stops = some_stops(dice, hall)
            found = same_after(self, read_stops, hall, show_stops(stops))
            self.assertEqual(found, stops)
            self.assertEqual(list(found), sorted(stops))
            check_new(self, read_stops, hall, show_stops(stops))

    def test_lines_in_any_order(self):
        lines = ["wash 12 0 2", "  cap 10   0 1 ", "wash 0 1 7", "", "   ", "# cap 2 0 9", "#cap", " # x", "cap 2 0 5"]
        dice = random.Random(11)
        for _ in range(20):
            found = read_stops(HALL, "\n".join(lines))
            self.assertEqual(list(found.items()), [(("cap", 2, 0), 5), (("cap", 10, 0), 1), (("wash", 0, 1), 7), (("wash", 12, 0), 2)])
            dice.shuffle(lines)

    def test_none(self):
        for text in ("", " ", "\n", "# none", "\n\n  \n#"):
            self.assertEqual(read_stops(HALL, text), {})
            self.assertEqual(read_stops(LONE, text), {})

    def test_numbers_of_nine_digits(self):
        self.assertEqual(read_stops(HALL, "wash 999999999 1 999999999"), {("wash", 999999999, 1): 999999999})

    def test_each_bad_line(self):
        for bad in BAD_STOPS:
            self.check_line(HALL, bad, 0)
            self.check_line(HALL, "cap 0 0 1\n\n# x\n  " + bad, 3)
            self.check_line(HALL, "cap 0 0 1\n" + bad + "\nbox\ncap 0 0 1", 1)

    def test_what_is_told_twice(self):
        self.check_line(HALL, "cap 0 0 1\ncap 0 0 1", 1)
        self.check_line(HALL, "cap 0 0 1\nwash 0 0 2\ncap 0 0 2\nbox", 2)
        self.assertEqual(len(read_stops(HALL, "wash 0 0 1\nwash 0 1 1\nwash 1 0 1\ncap 0 0 1")), 4)

    def test_let_or_not(self):
        self.assertEqual(read_stops(HALL, "wash 0 0 99\nwash 1 0 99"), {("wash", 0, 0): 99, ("wash", 1, 0): 99})

    def test_machines_called_like_words(self):
        self.assertEqual(read_stops(WORDS, "next 1 0 2\nbelt 0 0 1\n#\ndown 3 0 4"), {("belt", 0, 0): 1, ("down", 3, 0): 4, ("next", 1, 0): 2})
        for bad in ("machine 0 0 1", "up 0 0 1", "filler 0 0 1"):
            self.check_line(WORDS, bad, 0)


class WayTextTest(unittest.TestCase):
    def test_words(self):
        way = ("wash", (("down", 0), ("next", "fill"), ("down", 1), ("up", 1), ("up", 0)))
        self.assertEqual(same_after(self, way_text, way), "wash down 0 next down 1 up 1 up 0")
        self.assertEqual([way_text(("cap", ())), way_text(("fill", (("next", "fill"),) * 3)), way_text(("a", (("up", 12),)))],
                         ["cap", "fill next next next", "a up 12"])

    def test_there_and_back(self):
        dice = random.Random(12)
        for hall in some_halls(12, 80) + [LONE, DEAD, WORDS]:
            for many in (0, 1, 2, 5, 40):
                way = some_way(dice, hall, many)
                text = way_text(way)
                self.assertEqual(same_after(self, read_way, hall, text), way)
                self.assertEqual(read_way(hall, "  " + text.replace(" ", "   ") + " "), way)

    def test_a_long_way(self):
        way = ("fill", (("down", 1), ("up", 1)) * 1500)
        self.assertEqual(read_way(HALL, way_text(way)), way)


class ReadWayTest(unittest.TestCase):
    def test_ways(self):
        self.assertEqual(read_way(HALL, "fill up 0 next down 0"), ("fill", (("up", 0), ("next", "wash"), ("down", 0))))
        self.assertEqual(read_way(HALL, "  wash"), ("wash", ()))
        self.assertEqual(read_way(HALL, "cap up 1 down 1 next next"), ("cap", (("up", 1), ("down", 1), ("next", "cap"), ("next", "cap"))))

    def test_words_that_tell_no_way(self):
        for text in BAD_WAYS:
            self.assertEqual(raised(self, NoText, read_way, HALL, text).line, 0, text)

    def test_machines_called_like_words(self):
        self.assertEqual(read_way(WORDS, "next next down 2 next"), ("next", (("next", "next"), ("down", 2), ("next", "down"))))
        self.assertEqual(read_way(WORDS, "up down 1 up 0"), ("up", (("down", 1), ("up", 0))))
        self.assertEqual(read_way(WORDS, "down down 3 up 4"), ("down", (("down", 3), ("up", 4))))
        self.assertEqual(read_way(WORDS, "belt"), ("belt", ()))
        self.assertEqual(read_way(WORDS, "machine next"), ("machine", (("next", "machine"),)))
        for text in ("up 1", "down 3", "next 2", "next up", "next next next next down"):
            self.assertEqual(raised(self, NoText, read_way, WORDS, text).line, 0, text)

    def test_several_belts_between_the_same_two(self):
        hall = (HALL[0], HALL[1] + (("fill", "wash", 2, 1), ("wash", "fill", 3, 1)), "fill")
        self.assertEqual(read_way(hall, "fill down 2 down 3 up 0"), ("fill", (("down", 2), ("down", 3), ("up", 0))))
        self.assertEqual(raised(self, NoText, read_way, hall, "fill down 3").line, 0)
        self.assertEqual(raised(self, NoText, read_way, hall, "fill up 2").line, 0)


class WrongTest(unittest.TestCase):
    def test_wrong_0_goes_ahead_of_wrong_1(self):
        for call in (read_stops, read_way):
            for thing in any_values():
                right = any(thing is hall for hall in (HALL, LONE, DEAD))
                if right or type(thing) is tuple and thing and thing == ((("a", 1, ()),), (), "a"):
                    continue
                for text in ("", "box", None, 7, ["cap"]):
                    self.assertEqual(raised(self, Wrong, call, thing, text).place, 0)

    def test_wrong_1(self):
        for call in (read_stops, read_way):
            for thing in any_values():
                if type(thing) is not str:
                    self.assertEqual(raised(self, Wrong, call, HALL, thing).place, 1)

    def test_strings_of_all_kinds(self):
        for thing in any_values():
            if type(thing) is str and thing.strip(" \n#"):
                self.assertEqual(raised(self, NoText, read_stops, HALL, thing).line, 0)
            if type(thing) is str and thing not in ("cap", "fill"):
                self.assertEqual(raised(self, NoText, read_way, HALL, thing).line, 0)


if __name__ == "__main__":
    unittest.main()
