"""[13]: texts of halls."""

import random
import unittest

from fillerfed.errors import NoText, Wrong
from fillerfed.forms import is_hall
from fillerfed.halltexts import read_hall, show_hall
from samples import DEAD, HALL, LONE, any_values, raised, same_after, some_halls

# A text that tells a HALL; each line that is put behind it has the index 3.
RIGHT = "machine a 1\nmachine b 2 3+1\nfiller a"

BAD_LINES = (
    "box", "machines a 1", "Machine a 1", "a 1", "1", "+", "belts a b 1 0", "fillers a", "filler# a", "fill er a",
    "machine", "machine c", "machine 1", "machine c d", "machine C 1", "machine c1 1", "machine " + "c" * 13 + " 1", "machine c 0",
    "machine c 01", "machine c 00", "machine c +1", "machine c -1", "machine c 1.0", "machine c 1e3", "machine c 1_0", "machine c 1234567890",
    "machine c 0x1", "machine c \u0661", "machine c \u00b2", "machine \u00e4 1", "machine 1 c", "machine c 1 2", "machine c 1 2+", "machine c 1 +2",
    "machine c 1 +", "machine c 1 0+1", "machine c 1 2+01", "machine c 1 02+1", "machine c 1 2+-1", "machine c 1 -2+1", "machine c 1 2+1+0",
    "machine c 1 2++1", "machine c 1 2 +1", "machine c 1 2+ 1", "machine c 1 2+1 0+0", "machine c 1 2+1 d", "machine c 1 2-1",
    "machine c 1 1234567890+0", "machine c 1 1+1234567890", "machine c 1 2+1 filler c", "machine c 1 # two", "machine c\t1", "\tmachine c 1",
    "machine c 1\r", "machine c 1 2+1,", "machine c 1 (2+1)",
    "belt", "belt a", "belt a b", "belt a b 1", "belt a b 1 0 0", "belt a b 0 0", "belt a b 1 2", "belt a b 9 10", "belt a a 1 0", "belt a b 1 -1",
    "belt a b -1 0", "belt a b 1 +0", "belt a b 01 0", "belt a b 1 00", "belt a b 1 01", "belt a b one 0", "belt a b 1 none", "belt A b 1 0",
    "belt a B 1 0", "belt a 1 b 0", "belt 1 2 1 0", "belt a b 1234567890 0", "belt a b 1 1234567890", "belt a " + "b" * 13 + " 1 0", "belt a b 1 0 #",
    "belt a b 1+0", "belt a, b 1 0",
    "filler", "filler a b", "filler A", "filler 1", "filler " + "a" * 13, "filler a1", "filler a #", "filler +",
)


def shuffled(dice, hall):
    """A text of a HALL with its lines in any order, but for the order of its BELTS, blanks, empty lines and remarks."""
    lines = show_hall(hall).split("\n")
    belts = [line for line in lines if line.startswith("belt ")]
    slots = [line for line in lines if line not in belts] + ["# a remark", "#", "  #remark machine a 1", "", "   "] + [None] * len(belts)
    dice.shuffle(slots)
    waiting = iter(belts)
    lines = [next(waiting) if slot is None else slot for slot in slots]
    blanks = [(" " * dice.choice((1, 1, 3))).join(line.split(" ")) for line in lines]
    return "\n".join(" " * dice.choice((0, 0, 2)) + line + " " * dice.choice((0, 0, 2)) for line in blanks)


class ShowHallTest(unittest.TestCase):
    def test_row_by_row(self):
        self.assertEqual(show_hall(LONE), "machine fill 4\nfiller fill")
        self.assertEqual(same_after(self, show_hall, HALL).split("\n"), [
            "machine cap 2 2+1", "machine fill 4", "machine wash 2 3+0 1+1", "belt wash fill 1 1", "belt fill cap 1 0", "filler fill"])

    def test_belts_stand_as_they_are(self):
        hall = (HALL[0], (("wash", "fill", 3, 2), ("cap", "fill", 2, 0), ("wash", "fill", 3, 2), ("cap", "wash", 20, 20)), "fill")
        self.assertEqual(show_hall(hall).split("\n")[3:], [
            "belt wash fill 3 2", "belt cap fill 2 0", "belt wash fill 3 2", "belt cap wash 20 20", "filler fill"])

    def test_great_numbers(self):
        hall = ((("a", 10 ** 12, ()), ("b", 1, ((10 ** 15, 10 ** 11),))), (("a", "b", 10 ** 10, 10 ** 10),), "a")
        self.assertEqual(show_hall(hall).split("\n"), [
            "machine a 1000000000000", "machine b 1 1000000000000000+100000000000", "belt a b 10000000000 10000000000", "filler a"])

    def test_row_by_row_of_halls(self):
        for hall in some_halls(5):
            lines = []
            for name, time, purses in hall[0]:
                lines.append(" ".join(["machine", name, str(time), *(str(size) + "+" + str(back) for size, back in purses)]))
            lines += ["belt " + " ".join(map(str, belt)) for belt in hall[1]]
            self.assertEqual(show_hall(hall), "\n".join(lines + ["filler " + hall[2]]))


class ReadHallTest(unittest.TestCase):
    def check_line(self, text, line):
        self.assertEqual(raised(self, NoText, read_hall, text).line, line, text)

    def test_text_of_a_hall_gives_it_again(self):
        for hall in [HALL, LONE, DEAD] + some_halls(6, 80):
            self.assertEqual(same_after(self, read_hall, show_hall(hall)), hall)

    def test_lines_in_any_order(self):
        dice = random.Random(7)
        for hall in some_halls(8, 80):
            text = shuffled(dice, hall)
            self.assertEqual(read_hall(text), hall)
            self.assertEqual(read_hall(text + "\n"), hall)
            self.assertEqual(read_hall("\n\n" + text + "\n\n"), hall)

    def test_what_is_told_later_may_be_named(self):
        self.assertEqual(read_hall("filler b\nbelt a b 2 1\nmachine b 3\nmachine a 1 1+0"), ((("a", 1, ((1, 0),)), ("b", 3, ())), (("a", "b", 2, 1),), "b"))

    def test_belts_as_they_stand(self):
        text = "belt b a 1 0\nmachine a 1\nbelt a b 2 0\nfiller a\nbelt b a 3 0\nmachine b 1\nbelt a b 4 0"
        self.assertEqual(read_hall(text)[1], (("b", "a", 1, 0), ("a", "b", 2, 0), ("b", "a", 3, 0), ("a", "b", 4, 0)))

    def test_machines_ascend(self):
        names = ["d", "b", "c", "a"]
        text = "\n".join(["filler c"] + ["machine " + name + " 1" for name in names] + ["belt a " + name + " 1 0" for name in "bcd"])
        self.assertEqual([machine[0] for machine in read_hall(text)[0]], sorted(names))

    def test_purses_stand_as_they_are(self):
        self.assertEqual(read_hall("machine a 1\nmachine b 1 3+0 1+1 3+0 2+9\nbelt a b 1 0\nfiller a")[0][1][2], ((3, 0), (1, 1), (3, 0), (2, 9)))

    def test_machines_called_like_words(self):
        text = "machine machine 1\nmachine belt 2\nmachine filler 3\nbelt belt machine 1 1\nbelt filler belt 1 0\nfiller filler"
        self.assertEqual(read_hall(text), ((("belt", 2, ()), ("filler", 3, ()), ("machine", 1, ())),
                                           (("belt", "machine", 1, 1), ("filler", "belt", 1, 0)), "filler"))

    def test_numbers_of_nine_and_of_ten_digits(self):
        form = "machine a {}\nmachine b 1 {}+{}\nbelt a b {} {}\nfiller a"
        most = 999999999
        self.assertEqual(read_hall(form.format(most, most, most, most, most)),
                         ((("a", most, ()), ("b", 1, ((most, most),))), (("a", "b", most, most),), "a"))
        for at, line in enumerate((0, 1, 1, 2, 2)):
            for bad in ("1000000000", "01", "+1", "-1", "00"):
                self.check_line(form.format(*[bad if at == place else 1 for place in range(5)]), line)

    def test_wrong_of_whatever_is_no_string(self):
        for thing in any_values():
            if type(thing) is str:
                self.check_line(thing, len(thing.split("\n")) if not thing.strip(" \n") or thing.startswith("#") else 0)
            else:
                self.assertEqual(raised(self, Wrong, read_hall, thing).place, 0)

    def test_each_bad_line(self):
        self.check_line(RIGHT, 3)
        self.assertTrue(is_hall(read_hall(RIGHT + "\nbelt a b 1 0")))
        for bad in BAD_LINES:
            self.check_line(bad, 0)
            self.check_line(RIGHT + "\n" + bad, 3)
            self.check_line("\n# x\n  " + bad + "  \n" + RIGHT + "\nbelt a b 1 0", 2)

    def test_what_is_told_twice(self):
        self.check_line("machine a 1\nmachine b 2\nmachine a 3", 2)
        self.check_line("machine a 1\n\nmachine a 1\nfiller a", 2)
        self.check_line("machine a 1\nfiller a\nfiller a", 2)
        self.check_line("filler a\nfiller b\nmachine a 1", 1)
        self.check_line("filler x\nfiller x", 1)
        self.check_line("filler a\nmachine a 1\n\nmachine b 1\nbelt a b 1 0\nfiller a\nfiller a", 5)
        self.check_line("machine a 1\nfiller a\nmachine b 1\nbelt a b 1 0\nmachine a 1", 4)
        self.assertEqual(read_hall("machine a 1\nmachine b 1\nbelt a b 1 0\nbelt a b 1 0\nfiller a")[1], (("a", "b", 1, 0),) * 2)

    def test_names_that_are_told_nowhere(self):
        self.check_line("machine a 1\nfiller a\nbelt a b 1 0", 2)
        self.check_line("machine a 1\nbelt b a 1 0\nfiller a", 1)
        self.check_line("filler b\nmachine a 1", 0)
        self.check_line("# b\nfiller b\nbelt c d 1 0\nmachine a 1", 1)
        self.check_line("belt c d 1 0\nfiller b\nmachine a 1", 0)
        self.check_line("machine a 1\nmachine b 1\nbelt a b 1 0\nbelt a c 1 0\nbelt a d 1 0\nfiller b", 3)

    def test_texts_that_tell_no_hall(self):
        for text in ("", " ", "   ", "#", "# filler a", "machine a 1", "machine a 1 1+0\nfiller a", "machine a 1\nmachine b 1\nfiller a",
                     "machine a 1\nmachine b 1\nmachine c 1\nbelt a b 1 0\nfiller c", "machine a 1\nmachine b 1\nbelt a b 1 0"):
            lines = 1 + text.count("\n")
            self.check_line(text, lines)
            self.check_line(text + "\n", lines + 1)
            self.check_line("\n" + text + "\n \n# b", lines + 3)

    def test_the_filler_has_no_purse(self):
        self.check_line("machine a 1\nmachine b 1 2+0\nbelt a b 1 0\nfiller b", 4)
        self.assertEqual(read_hall("machine a 1\nmachine b 1 2+0\nbelt a b 1 0\nfiller a")[2], "a")

    def test_an_earlier_round_goes_ahead_of_a_later_one(self):
        self.check_line("filler b\nmachine a 1\nbox", 2)
        self.check_line("filler b\nbelt c d 1 0\nmachine a 1\nmachine a 1", 3)
        self.check_line("belt c d 1 0\nfiller b\nfiller b", 2)
        self.check_line("machine a 1 1+0\nfiller a\nbelt a b 1 0", 2)
        self.check_line("machine a 1 1+0\nfiller a\nbelt b a 1 0\nbelt a b 1 2", 3)
        self.check_line("machine a 1\nmachine b 1\nfiller c", 2)

    def test_the_first_bad_line(self):
        self.check_line("machine a 1\nbox\nmachine a 1\nbox", 1)
        self.check_line("machine a 1\nmachine a 1\nbox", 1)


if __name__ == "__main__":
    unittest.main()
