"""[38]: the desk."""

import random
import unittest

from fillerfed.booking import least_lots
from fillerfed.desk import Desk
from fillerfed.errors import Dead, NoCommand, Nothing, TooMany, Wrong
from fillerfed.forms import is_hall
from fillerfed.fractions import fraction_text
from fillerfed.halltexts import read_hall, show_hall
from fillerfed.kept import Kept
from fillerfed.paces import worst_pace
from fillerfed.rings import is_live
from fillerfed.stoptexts import read_stops, read_way, show_stops
from fillerfed.walks import is_walk
from fillerfed.walkstops import pays, told_wait
from samples import DEAD, HALL, LONE, WIDE, Odd, any_values, drawn_change, frozen, live_halls, some_hall, with_pace

MACHINES = (("cap", 2, ((2, 1),)), ("fill", 4, ()), ("wash", 2, ((3, 0),)))
FED = (MACHINES, (("wash", "fill", 1, 1), ("fill", "cap", 1, 0)), "fill")
# Machines whose names are words of COMMANDS.
NAMED = ((("belt", 2, ((2, 1),)), ("drop", 1, ()), ("stop", 3, ()), ("undo", 5, ())),
         (("belt", "drop", 2, 2), ("stop", "belt", 1, 0), ("drop", "undo", 1, 1)), "undo")


def words_of(word, given):
    """The COMMAND of a CHANGE of a Kept."""
    if word == "put_machine":
        (name, time, purses), belt = given
        parts = ["machine", name, time] + [f"{size}+{back}" for size, back in purses] + ["belt", *belt]
    elif word == "put_purses":
        parts = ["purses", given[0]] + [f"{size}+{back}" for size, back in given[1]]
    elif word == "put_belt":
        parts = ["belt", *given[0]]
    else:
        parts = [{"take_machine": "drop", "put_time": "time", "put_filler": "filler", "take_belt": "cut", "put_room": "room", "put_stop": "stop"}[word], *given]
    return " ".join(str(part) for part in parts)


def own_answer(kept, line):
    """What a question is answered, put together from what the other files tell."""
    word, *more = line.split(" ")
    try:
        if word == "verdict":
            kind, told = kept.verdict()
            return ["holds"] if kind == "holds" else None
        if word == "waits":
            return [f"{piece} {ticks}" for piece, ticks in enumerate(kept.waits(int(more[0]))) if ticks]
        if word == "lost":
            losses, rest = kept.lost(int(more[0]))
            return [f"{name} {ticks}" for name, ticks in sorted(losses.items())] + [f"rest {rest}"]
        if word == "blame":
            if not is_live(kept.hall()):
                return ["dead"]
            return [" ".join(lot) or "nobody" for lot in least_lots(kept.hall(), kept.stops(), int(more[0]))]
        if word == "pace":
            return [fraction_text(worst_pace(kept.hall()))]
    except Dead:
        return ["dead"]
    except TooMany:
        return ["many"]


class CommandsTest(unittest.TestCase):
    def test_changes_done_and_not_done(self):
        desk = Desk(FED)
        for line, answer in (("time wash 5", "done"), ("time nobody 5", "no"), ("purses wash 3+0 1+1", "done"), ("purses cap", "done"), ("purses fill", "no"),
                             ("purses nobody 1+0", "no"), ("stop wash 0 1 2", "done"), ("stop wash 0 2 2", "no"), ("stop cap 0 0 2", "no"),
                             ("stop wash 0 1 0", "done"),
                             ("machine box 5 belt cap box 2 0", "done"), ("machine box 5 belt cap box 2 0", "no"),
                             ("machine pot 1 1+0 2+2 3+3 4+4 belt pot box 1 1", "done"),
                             ("machine zip 1 belt cap box 1 1", "no"), ("belt fill wash 3 1", "done"), ("belt fill nobody 3 1", "no"), ("room 0 4 4", "done"),
                             ("room 9 4 4", "no"), ("cut 1", "no"), ("cut 0", "done"), ("cut 9", "no"), ("filler cap", "done"), ("filler wash", "no"),
                             ("filler nobody", "no"),
                             ("drop pot", "done"), ("drop pot", "no"), ("drop cap", "no"), ("undo", "done")):
            self.assertEqual(frozen(desk.execute(line)), frozen([answer]), line)
        kept = desk.kept()
        self.assertEqual(kept.hall(), ((("box", 5, ()), ("cap", 2, ()), ("fill", 4, ()), ("pot", 1, ((1, 0), (2, 2), (3, 3), (4, 4))),
                                        ("wash", 5, ((3, 0), (1, 1)))),
                                       (("fill", "cap", 1, 0), ("cap", "box", 2, 0), ("pot", "box", 1, 1), ("fill", "wash", 3, 1)), "cap"))

    def test_drawn_changes_are_those_of_kept(self):
        dice = random.Random(230)
        answers = {}
        for at in range(60):
            hall = some_hall(dice, 1 + at % 5, 2, 3)
            desk, kept = Desk(hall), Kept(hall)
            for _ in range(14):
                word, given = drawn_change(dice, kept.hall())
                line = words_of(word, given)
                if "-" in line or any(part is None for part in given):
                    self.assertRaises(NoCommand, desk.execute, line)
                    continue
                told = getattr(kept, word)(*given)
                self.assertEqual(frozen(desk.execute(line)), frozen(["done"] if told else ["no"]), line)
                answers[word, told] = True
                if dice.random() < 0.2:
                    try:
                        kept.undo()
                        told = ["done"]
                    except Nothing:
                        told = ["nothing"]
                    self.assertEqual(desk.execute("undo"), told)
                self.assertTrue(desk.kept() == kept)
                self.assertEqual("\n".join(desk.execute("hall")), show_hall(kept.hall()))
                self.assertEqual("\n".join(desk.execute("stops")), show_stops(kept.stops()))
        self.assertEqual(len(answers), 18)

    def test_names_that_are_words_of_commands(self):
        desk = Desk(NAMED)
        self.assertTrue(is_hall(NAMED))
        for line, answer in (("machine hall 2 belt hall undo 1 1", ["done"]), ("machine cut 2 1+1 belt belt cut 2 0", ["done"]), ("drop drop", ["no"]),
                             ("time belt 9", ["done"]), ("belt belt undo 1 0", ["done"]), ("filler stop", ["done"]), ("stop belt 0 0 2", ["done"]),
                             ("purses undo 1+1", ["done"]), ("drop hall", ["done"]), ("stop stop 0 0 1", ["no"]), ("filler filler", ["no"]),
                             ("room 4 1 1", ["done"])):
            self.assertEqual(desk.execute(line), answer, line)
        self.assertEqual(desk.execute("stops"), ["belt 0 0 2"])
        self.assertEqual(desk.execute("machine belt 5 belt belt undo 1 0"), ["no"])

    def test_undo(self):
        desk = Desk(FED)
        self.assertEqual([desk.execute("undo"), desk.execute("time nobody 3"), desk.execute("undo")], [["nothing"], ["no"], ["nothing"]])
        self.assertEqual([desk.execute("time fill 3"), desk.execute("drop wash"), desk.execute("undo"), desk.execute("undo"), desk.execute("undo")],
                         [["done"], ["done"], ["done"], ["done"], ["nothing"]])
        self.assertEqual(desk.kept().hall(), FED)


class NoCommandTest(unittest.TestCase):
    RIGHT = ("machine box 5 2+1 3+0 belt cap box 2 1", "machine box 5 belt box cap 2 1", "drop wash", "time wash 5", "purses wash 2+0 1+1",
             "purses wash", "filler fill",
             "belt cap wash 2 1", "cut 0", "room 0 2 1", "stop wash 0 0 3", "undo", "hall", "stops", "verdict", "waits 3", "lost 3", "blame 3", "pace")

    def check_none(self, line):
        desk = Desk(FED)
        with self.assertRaises(NoCommand) as held:
            desk.execute(line)
        self.assertIs(type(held.exception), NoCommand)
        self.assertEqual([desk.kept().hall(), desk.kept().stops(), desk.execute("undo")], [FED, {}, ["nothing"]], line)

    def test_all_of_these_are_some(self):
        for line in self.RIGHT:
            self.assertIs(type(Desk(FED).execute(line)), list)

    def test_blanks_and_line_feeds(self):
        for line in self.RIGHT:
            words = line.split(" ")
            for other in (" " + line, line + " ", line + "\n", "\n" + line, line + "\n" + line, line.upper(), line + "\t", line.replace(" ", "  ", 1),
                          line.replace(" ", "\t"),
                          "  ".join(words), "\n".join(words), line[:-1] + "\n" + line[-1:], line + "  ", "# " + line, "#" + line):
                if other != line:
                    self.check_none(other)
        for line in ("", " ", "  ", "\n", "#", "nonsense", "0", "wash", "+", "waits\n3"):
            self.check_none(line)

    def test_words_too_few_and_too_many(self):
        for line in self.RIGHT:
            words = line.split(" ")
            for many in range(1, len(words)):
                other = " ".join(words[:many])
                if other not in ("purses wash", "purses wash 2+0"):
                    self.check_none(other)
            for more in ("0", "wash", "1+1", "", "belt"):
                if not (words[0] == "purses" and more == "1+1"):
                    self.check_none(line + " " + more)
            if len(words) > 1:
                self.check_none(" ".join(words[1:]) if words[1:] != ["wash"] else "wash")

    def test_numbers(self):
        spots = (("machine box {} belt cap box 2 1", 0), ("machine box 5 {}+1 belt cap box 2 1", 0), ("machine box 5 2+{} belt cap box 2 1", None),
                 ("machine box 5 belt cap box {} 0", 0), ("machine box 5 belt cap box 2 {}", None), ("time wash {}", 0), ("purses wash {}+0", 0),
                 ("purses wash 2+{}", None),
                 ("purses wash 1+1 2+{}", None), ("belt cap wash {} 0", 0), ("belt cap wash 2 {}", None), ("cut {}", None), ("room {} 2 1", None),
                 ("room 0 {} 0", 0),
                 ("room 0 2 {}", None), ("stop wash {} 0 1", None), ("stop wash 0 {} 1", None), ("stop wash 0 0 {}", None), ("waits {}", None),
                 ("lost {}", None), ("blame {}", None))
        for line, least in spots:
            for word in ("-1", "+1", "01", "00", "1.0", "1e1", "x", "", "1_0", "0x1", "1" * 10, "9999999999", "one", "\u0661", "\u00b2", " 1", "1 1",
                         "1+", "1\n"):
                self.check_none(line.format(word))
            self.assertIs(type(Desk(FED).execute(line.format("1"))), list)
            if least == 0:
                self.check_none(line.format("0"))
            else:
                self.assertIs(type(Desk(FED).execute(line.format("0"))), list)
        for line in ("machine box 999999999 belt cap box 999999999 999999999", "time wash 999999999", "purses wash 999999999+999999999",
                     "stop wash 999999999 0 999999999"):
            self.assertEqual(Desk(FED).execute(line), ["done"])
        self.assertEqual([Desk(FED).execute("cut 999999999"), Desk(FED).execute("room 999999999 1 1")], [["no"], ["no"]])

    def test_names(self):
        for line in ("machine {} 5 belt cap box 2 1", "machine box 5 belt {} box 2 1", "machine box 5 belt box {} 2 1", "drop {}", "time {} 5",
                     "purses {} 2+0", "purses {}",
                     "filler {}", "belt {} wash 2 1", "belt cap {} 2 1", "stop {} 0 0 3"):
            for name in ("Cap", "a1", "", "a_b", "a-b", "abcdefghijklm", "\u00e4", "cap\n", "1", "1+1", "a b c"):
                self.check_none(line.format(name))
            self.assertIn(Desk(FED).execute(line.format("abcdefghijkl")), (["done"], ["no"]))

    def test_what_is_no_machine_belt_or_purse(self):
        for line in ("machine box 5 belt cap cap 2 1", "machine box 5 belt cap box 2 3", "machine box 0 belt cap box 2 1", "machine box 5 0+1 belt cap box 2 1",
                     "machine box 5 2 belt cap box 2 1", "machine box 5 2+1+1 belt cap box 2 1", "machine box 5 +1 belt cap box 2 1",
                     "machine box 5 2- belt cap box 2 1",
                     "machine box belt cap box 2 1", "machine box 5 Belt cap box 2 1", "machine box 5 cap box 2 1",
                     "machine box 5 belt belt cap box 2 1", "machine belt cap box 2 1",
                     "machine box 5 2+1 belt cap box 2 1 2+1", "belt cap cap 1 1", "belt cap wash 1 2", "belt cap wash 0 0", "room 0 1 2",
                     "room 0 0 0", "purses wash 0+0",
                     "purses wash 2+0 0+1", "purses wash 2+0 belt", "purses wash 2 0", "time wash 0", "room 9 1 2", "time nobody 0", "purses fill 0+1"):
            self.check_none(line)

    def test_bounds_of_questions(self):
        for line in ("waits 401", "waits 999999999", "lost 400", "lost 401", "blame 400", "blame 999999999"):
            self.check_none(line)
        for hall in (DEAD, WIDE):
            for line in ("waits 401", "lost 400", "blame 400", "pace 0", "verdict 0"):
                self.assertRaises(NoCommand, Desk(hall).execute, line)
        for line in ("waits 400", "waits 0", "lost 399", "lost 0", "blame 399", "blame 0"):
            self.assertIs(type(Desk(FED).execute(line)), list)

    def test_wrong(self):
        desk = Desk(FED)
        for thing in any_values() + [desk, Kept(FED), b"undo", ["undo"], ("undo",), Odd()]:
            if type(thing) is str:
                self.check_none(thing) if thing not in ("hall", "stops") else None
                continue
            with self.assertRaises(Wrong) as held:
                desk.execute(thing)
            self.assertEqual(held.exception.place, 0)
            if not is_hall(thing):
                with self.assertRaises(Wrong) as held:
                    Desk(thing)
                self.assertEqual(held.exception.place, 0)
        self.assertEqual([desk.kept().hall(), desk.execute("undo")], [FED, ["nothing"]])

    def test_long_lines(self):
        for line in ("undo" * 700, "a " * 1400, "purses wash" + " 1+0" * 700, "hall\n" * 500, "~" * 3000, "machine" + " belt" * 500):
            desk = Desk(FED)
            if line.startswith("purses"):
                self.assertEqual([desk.execute(line), len(desk.kept().hall()[0][2][2])], [["done"], 700])
            else:
                self.assertRaises(NoCommand, desk.execute, line)


class AnswersTest(unittest.TestCase):
    def test_hall_and_stops(self):
        desk = Desk(FED)
        self.assertEqual(desk.execute("hall"), ["machine cap 2 2+1", "machine fill 4", "machine wash 2 3+0", "belt wash fill 1 1",
                                                "belt fill cap 1 0", "filler fill"])
        self.assertEqual(desk.execute("stops"), [])
        desk.execute("stop wash 12 0 3")
        desk.execute("stop cap 2 0 1")
        self.assertEqual(desk.execute("stops"), ["cap 2 0 1", "wash 12 0 3"])
        self.assertEqual([Desk(LONE).execute("hall"), Desk(LONE).execute("stops")], [["machine fill 4", "filler fill"], []])

    def test_texts_can_be_read_again(self):
        for hall, stops in live_halls(231, 40, 5):
            desk = Desk(hall)
            for (name, piece, purse), ticks in stops.items():
                desk.execute(f"stop {name} {piece} {purse} {ticks}")
            self.assertEqual(read_hall("\n".join(desk.execute("hall"))), hall)
            self.assertEqual(read_stops(hall, "\n".join(desk.execute("stops"))), stops)

    def test_verdict(self):
        self.assertEqual(Desk(FED).execute("verdict"), ["waits wash down 0", "1 1"])
        kinds = {"holds": 0, "waits": 0}
        for hall, _ in live_halls(232, 60, 4):
            for pace in (3, 12):
                other = with_pace(hall, pace)
                answer = Desk(other).execute("verdict")
                kind, told = Kept(other).verdict()
                kinds[kind] += 1
                if kind == "holds":
                    self.assertEqual(answer, ["holds"])
                    continue
                word, _, text = answer[0].partition(" ")
                walk = read_way(other, text)
                self.assertEqual([word, len(answer), walk], ["waits", 2, told])
                self.assertTrue(is_walk(other, walk) and pays(other, walk))
                piece, ticks = told_wait(other, walk)
                self.assertEqual(answer[1], f"{piece} {ticks}")
        self.assertGreater(min(kinds.values()), 20)

    def test_waits_lost_and_blame(self):
        desk = Desk(FED)
        for line in ("stop cap 0 0 2", "stop cap 1 0 1", "stop wash 0 0 3"):
            desk.execute(line)
        self.assertEqual([desk.execute(line) for line in ("waits 0", "waits 1", "waits 4", "lost 0", "lost 3", "blame 0", "blame 3")],
                         [[], [], ["1 1", "2 1", "3 1"], ["rest 0"], ["wash 3", "rest 2"], ["nobody"], ["wash"]])
        self.assertEqual([len(desk.execute("waits 400")), desk.execute("waits 400")[-1], desk.execute("blame 399")], [399, "399 1", ["wash"]])
        # It waits without any STOPS: no LOT frees it, and the rest is below 0.
        slow = Desk(((("cap", 5, ((3, 0),)), ("fill", 4, ())), (("cap", "fill", 1, 1),), "fill"))
        self.assertEqual([slow.execute(line) for line in ("waits 3", "lost 2", "blame 0", "blame 2", "pace")],
                         [["1 1", "2 2"], ["rest -2"], ["nobody"], [], ["5"]])
        slow.execute("stop cap 0 0 3")
        self.assertEqual([slow.execute("lost 2"), slow.execute("blame 2")], [["cap 3", "rest -2"], []])

    def test_lots_of_several_machines(self):
        machines = (("cap", 2, ((9, 0),)), ("dip", 2, ((9, 0),)), ("fill", 4, ()), ("wash", 2, ((9, 0),)))
        desk = Desk((machines, (("dip", "cap", 2, 2), ("cap", "fill", 1, 1), ("wash", "fill", 1, 1)), "fill"))
        for line in ("stop dip 0 0 8", "stop cap 2 0 2", "stop wash 0 0 9"):
            desk.execute(line)
        self.assertEqual([desk.execute("blame 5"), desk.execute("blame 1")], [["cap wash", "dip wash"], ["wash"]])

    def test_pace(self):
        small = ((("cap", 2, ((2, 1),)), ("fill", 3, ())), (("cap", "fill", 1, 1),), "fill")
        self.assertEqual([Desk(small).execute("pace"), Desk(FED).execute("pace"), Desk(LONE).execute("pace")], [["7/2"], ["4"], ["4"]])

    def test_dead_and_many(self):
        questions = ("verdict", "waits 0", "waits 5", "lost 0", "lost 9", "blame 0", "blame 399", "pace")
        desk = Desk(DEAD)
        for line in questions:
            self.assertEqual(desk.execute(line), ["dead"])
        self.assertEqual([desk.execute("hall"), desk.execute("stops"), desk.execute("stop cap 0 0 1"), desk.execute("stops")],
                         [show_hall(DEAD).split("\n"), [], ["done"], ["cap 0 0 1"]])
        desk = Desk(WIDE)
        self.assertEqual([desk.execute(line) for line in ("verdict", "pace", "waits 1", "lost 0", "blame 0")], [["many"], ["many"], [], ["rest 0"], ["nobody"]])
        # More STATES than 4,000, but not than 20,000.
        desk.execute("purses box 50+1")
        self.assertEqual([desk.execute("pace"), desk.execute("verdict")[0].split(" ")[0]], [["many"], "waits"])
        # Dead comes ahead of many.
        desk.execute("belt cap wash 1 1")
        self.assertEqual([desk.execute("pace"), desk.execute("verdict")], [["dead"], ["dead"]])

    def test_drawn_ones(self):
        dice = random.Random(233)
        checked = {}
        for at in range(60):
            desk = Desk(some_hall(dice, 2 + at % 3, 1, 2))
            for _ in range(8):
                line = words_of(*drawn_change(dice, desk.kept().hall()))
                if "-" not in line:
                    desk.execute(line)
            for line in ("verdict", f"waits {dice.randint(0, 9)}", f"lost {dice.randint(0, 9)}", f"blame {dice.randint(0, 9)}", "pace"):
                told = own_answer(desk.kept(), line)
                answer = desk.execute(line)
                if told is not None:
                    self.assertEqual(frozen(answer), frozen(told))
                self.assertEqual(frozen(desk.execute(line)), frozen(answer))
                checked[line.split(" ")[0], answer == ["dead"]] = True
        self.assertEqual(len(checked), 10)

    def test_a_new_list_each_time(self):
        desk = Desk(FED)
        desk.execute("stop wash 0 0 3")
        for line in ("hall", "stops", "verdict", "waits 5", "lost 3", "blame 3", "pace", "time wash 2", "undo", "drop nobody"):
            first = desk.execute(line)
            told = frozen(first)
            first.append("x")
            self.assertEqual(frozen(desk.execute(line)), told)
        dead = Desk(DEAD)
        dead.execute("pace").clear()
        self.assertEqual(dead.execute("pace"), ["dead"])


class DeskTest(unittest.TestCase):
    def test_kept_is_a_twin(self):
        desk = Desk(FED)
        desk.execute("time wash 3")
        kept = desk.kept()
        self.assertIs(type(kept), Kept)
        kept.put_time("wash", 9)
        self.assertEqual(desk.execute("hall")[2], "machine wash 3 3+0")
        kept.undo()
        kept.undo()
        self.assertRaises(Nothing, kept.undo)
        self.assertEqual([kept.hall(), desk.execute("undo"), desk.execute("undo")], [FED, ["done"], ["nothing"]])
        desk.execute("stop wash 0 0 1")
        self.assertEqual([kept.stops(), desk.kept().stops()], [{}, {("wash", 0, 0): 1}])

    def test_twin(self):
        desk = Desk(FED)
        desk.execute("time wash 3")
        desk.execute("stop wash 0 0 1")
        twin = desk.twin()
        self.assertIs(type(twin), Desk)
        self.assertIsNot(twin, desk)
        self.assertTrue(twin == desk)
        self.assertEqual([twin.execute("undo"), twin.execute("undo"), twin.execute("undo")], [["done"], ["done"], ["nothing"]])
        self.assertEqual([desk.execute("stops"), desk.execute("hall")[2], twin.kept().hall()], [["wash 0 0 1"], "machine wash 3 3+0", FED])
        desk.execute("drop cap")
        self.assertEqual([len(twin.execute("hall")), len(desk.execute("hall")), twin == desk], [6, 4, False])

    def test_equal(self):
        self.assertTrue(Desk(FED) == Desk(FED))
        self.assertFalse(Desk(FED) != Desk(FED))
        self.assertFalse(Desk(FED) == Desk(HALL))
        desk = Desk(FED)
        desk.execute("stop wash 0 0 1")
        self.assertFalse(desk == Desk(FED))
        desk.execute("stop wash 0 0 0")
        self.assertTrue(desk == Desk(FED))
        for thing in any_values() + [FED, Kept(FED), desk.kept()]:
            self.assertIs(desk == thing, False)
            self.assertIs(desk != thing, True)
        self.assertIs(Kept(FED) == Desk(FED), False)


if __name__ == "__main__":
    unittest.main()
