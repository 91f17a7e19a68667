"""[5] to [10]: what is promised of the whole program, through several files; [3], [4]: what is promised of each function."""

import copy
import importlib
import itertools
import random
import unittest

from fillerfed.blame import chain, is_chain, needed_stops
from fillerfed.booking import booked, frees, least_lots, lost_at, saved
from fillerfed.books import book_of, is_book, word_of
from fillerfed.controls import carded, held_back, is_earlier, is_run, waits_in
from fillerfed.desk import Desk
from fillerfed.errors import HallError
from fillerfed.halls import with_belt, with_purses, with_time
from fillerfed.halltexts import read_hall, show_hall
from fillerfed.kept import Kept
from fillerfed.losses import is_loss_paper, loss_paper, loss_way, losses, worst_loss
from fillerfed.paces import is_pace_paper, latest_tick, mean_of, pace_paper, pace_way, worst_pace
from fillerfed.purses import are_let
from fillerfed.rings import is_live
from fillerfed.rooms import evidence, is_evidence, is_least_rooms, least_rooms, with_rooms
from fillerfed.runs import begins, waits
from fillerfed.shares import has_shares, is_just_so, spoiled, straight_gains
from fillerfed.spares import changed, changes_of, is_spare_paper, is_tight, spare_paper, spares
from fillerfed.states import full_state, states_of
from fillerfed.stoptexts import read_stops, read_way, show_stops, way_text
from fillerfed.tables import gains, is_table
from fillerfed.ticks import first_moment, next_moment, tick_begins
from fillerfed.trees import is_line
from fillerfed.verdicts import holds, is_verdict, verdict
from fillerfed.walks import all_walks, index_of, is_walk
from fillerfed.walkstops import gain_of, pays, stops_of, ticks_of, told_wait
from samples import (CHANGES, DEAD, drawn_change, drawn_tree, frozen, least_begins, least_pace, let_stops, live_halls, own_pace,
                     some_floors, some_hall, some_stops, with_pace)
from test_interface import listed

SMALL = [hall for hall, _ in live_halls(240, 110, 4)]
HALLS = SMALL + [with_pace(hall, max(1, least_pace(hall) - less)) for hall in SMALL[:45] if least_pace(hall) for less in (0, 1)]


def through_texts(hall):
    """The HALL as its text tells it."""
    return read_hall(show_hall(hall))


class RunsTest(unittest.TestCase):
    """[5]"""

    def test_tick_by_tick_it_is_the_run_left_alone_and_none_begins_earlier(self):
        dice = random.Random(241)
        for hall, stops in live_halls(242, 70, 6):
            hall, stops = through_texts(hall), read_stops(hall, show_stops(stops))
            alone = tick_begins(hall, stops, 10)
            self.assertEqual(frozen(alone), frozen(begins(hall, stops, 10)))
            self.assertEqual(alone, least_begins(hall, stops, 10))
            self.assertTrue(is_run(hall, stops, alone))
            names = [name for name, _, _ in hall[0]]
            cards = [(*dice.sample(names, 2), dice.randint(1, 3)) for _ in range(len(names) > 1)]
            for run in (held_back(hall, stops, some_floors(dice, hall, 10), 10), carded(hall, stops, cards, 10)):
                self.assertTrue(is_run(hall, stops, run))
                self.assertTrue(is_earlier(alone, run))
                # No begin of any RUN can be made earlier than the RUN LEFT ALONE has it.
                for name in names:
                    for piece in range(10):
                        less = {**run, name: run[name][:piece] + (alone[name][piece] - 1,) + run[name][piece + 1:]}
                        self.assertFalse(is_run(hall, stops, less))


class FillerTest(unittest.TestCase):
    """[6]"""

    def test_a_table_or_a_walk_and_never_both(self):
        dice = random.Random(243)
        kinds = {"holds": 0, "waits": 0}
        for hall in HALLS:
            hall = through_texts(hall)
            kind, told = book_of(hall)[1]
            kinds[kind] += 1
            self.assertEqual([kind, kind == "holds"], [word_of(hall), holds(hall)])
            if kind == "holds":
                self.check_table(dice, hall, told)
            else:
                self.check_walk(dice, hall, read_way(hall, way_text(told)))
        self.assertGreater(min(kinds.values()), 40)

    def check_table(self, dice, hall, table):
        self.assertTrue(is_table(hall, table) and is_book((hall, ("holds", table))))
        for walk in all_walks(hall, 4):
            self.assertFalse(pays(hall, walk) or is_verdict(hall, ("waits", walk)))
        stops = let_stops(dice, hall, 12)
        self.assertEqual(waits(hall, stops, 16), (0,) * 16)
        self.assertEqual([worst_loss(hall), losses(hall, 5)], [0, (0,) * 5])

    def check_walk(self, dice, hall, walk):
        self.assertTrue(is_walk(hall, walk) and is_book((hall, ("waits", walk))))
        stops = read_stops(hall, show_stops(stops_of(hall, walk)))
        piece, gain = told_wait(hall, walk)
        self.assertEqual([piece, gain, gain > 0, are_let(hall, stops)], [index_of(hall, walk), gain_of(hall, walk), True, True])
        if piece < 60:
            for run in (begins(hall, stops, piece + 1), held_back(hall, stops, some_floors(dice, hall, piece + 1), piece + 1)):
                self.assertGreaterEqual(waits_in(hall, run)[piece], gain)
            self.assertGreaterEqual(losses(hall, piece + 1)[piece], gain)

    def test_stops_by_which_it_waits_are_told_for_each_hall_that_does_not_hold(self):
        for hall in HALLS:
            kept = Kept(hall)
            kind, told = kept.verdict()
            if kind == "waits" and index_of(hall, told) < 60:
                for (name, piece, purse), ticks in stops_of(hall, told).items():
                    self.assertTrue(kept.put_stop(name, piece, purse, ticks))
                self.assertGreaterEqual(kept.waits(index_of(hall, told) + 1)[-1], gain_of(hall, told))


class SharesTest(unittest.TestCase):
    """[7]"""

    def test_trees_with_shares_hold(self):
        dice = random.Random(244)
        checked = 0
        for at in range(60):
            hall = through_texts(with_pace(drawn_tree(dice, 1 + at % 4), dice.randint(5, 25)))
            if has_shares(hall):
                self.assertTrue(holds(hall))
                self.assertTrue(all(gain <= 0 for gain in straight_gains(hall).values()))
                self.assertEqual(evidence(hall)[0], "holds")
                checked += len(hall[0]) > 1
        self.assertGreater(checked, 12)

    def test_where_all_is_just_so_nothing_can_be_spared(self):
        checked = 0
        for pace, room, other, back in itertools.product((2, 3, 5), (2, 3), (2, 4, 6), (0, 1)):
            # A machine at the FILLER and one ahead of it, with just their shares.
            near = ("cap", pace - back, ((other * pace - pace + back, back),))
            ahead = ("wash", pace - back, ((room * (pace - back) - pace + back, 0),))
            hall = ((near, ("fill", pace, ()), ahead), (("wash", "cap", room, room), ("cap", "fill", other, other)), "fill")
            if near[1] < 1 or ahead[1] < 1 or ahead[2][0][0] < 1 or not is_just_so(hall):
                continue
            self.assertTrue(is_line(hall) and holds(hall) and is_tight(hall))
            self.assertEqual([word_of(line) for line in spoiled(hall)], ["waits"] * 8)
            self.assertEqual(sorted(spoiled(hall)), sorted(changed(hall, change, 1) for change in changes_of(hall)))
            checked += 1
        self.assertGreater(checked, 8)


class RoomsTest(unittest.TestCase):
    """[8]"""

    def test_it_holds_exactly_with_at_least_one_of_the_least_rooms(self):
        dice = random.Random(245)
        kinds = {True: 0, False: 0}
        for at in range(70):
            hall = with_pace(some_hall(dice, 1 + at % 4, 1, 3), dice.randint(3, 12))
            if len(hall[1]) < 4:
                least, lost = told = least_rooms(hall, 3)
                self.assertTrue(is_least_rooms(hall, 3, told))
                for rooms in itertools.product(*[range(1 if room == first else max(1, first), 4) for _, _, room, first in hall[1]]):
                    enough = any(all(a >= b for a, b in zip(rooms, one)) for one, _ in least)
                    other = with_rooms(hall, rooms)
                    self.assertIs(is_live(other) and holds(other), enough)
                    kinds[enough] += 1
        self.assertGreater(min(kinds.values()), 100)

    def test_no_change_that_harms_is_good_for_it(self):
        for hall in HALLS:
            paper = spare_paper(hall)
            self.assertTrue(is_spare_paper(hall, paper))
            for change, told in paper:
                self.assertTrue(is_evidence(changed(hall, change, 1), told))
                self.assertTrue(told[0] != "holds" or holds(hall))
            if holds(hall):
                self.assertEqual(spares(hall), [change for change, told in paper if told[0] == "holds"])

    def test_what_eases_never_harms(self):
        eased = 0
        for hall in HALLS:
            if holds(hall):
                others = [with_belt(hall, index, room + 1, room + 1 if first == room else first) for index, (_, _, room, first) in enumerate(hall[1])]
                others += [with_time(hall, name, time - 1) for name, time, _ in hall[0] if name != hall[2] and time > 1]
                others += [with_purses(hall, name, purses[1:]) for name, _, purses in hall[0] if purses]
                self.assertTrue(all(holds(other) for other in others))
                eased += len(others)
        self.assertGreater(eased, 60)


class PaceAndLossTest(unittest.TestCase):
    """[9]"""

    def test_from_both_sides(self):
        dice = random.Random(246)
        kinds = {"worse": 0, "lost": 0, "holds": 0}
        for hall in HALLS:
            n, d = worst_pace(hall)
            paper = pace_paper(hall)
            self.assertTrue(is_pace_paper(hall, paper))
            self.assertEqual(mean_of(hall, paper[1]), (n, d))
            row = begins(hall, let_stops(dice, hall, 18), 20)[hall[2]]
            self.assertTrue(all(tick <= latest_tick(hall, paper, piece) for piece, tick in enumerate(row)))
            way = pace_way(hall, paper, 3)
            piece = index_of(hall, way)
            if piece < 80:
                self.assertGreaterEqual(begins(hall, stops_of(hall, way), piece + 1)[hall[2]][piece], ticks_of(hall, way))
            pace = own_pace(hall)
            worst = worst_loss(hall)
            self.assertIs(worst is None, n > d * pace)
            kinds["worse" if worst is None else "lost" if worst else "holds"] += 1
            self.assertIs(worst == 0, holds(hall))
            if worst is not None:
                self.assertTrue(is_loss_paper(hall, loss_paper(hall)))
                self.assertEqual(gain_of(hall, loss_paper(hall)[0]), worst)

    def test_the_loss_comes_about(self):
        for hall in HALLS:
            for piece in (0, 3, 8):
                way = loss_way(hall, piece)
                stops = stops_of(hall, read_way(hall, way_text(way)))
                self.assertTrue(are_let(hall, stops))
                self.assertEqual([waits(hall, stops, piece + 1)[piece], index_of(hall, way)], [losses(hall, piece + 1)[piece], piece])

    def test_a_paying_walk_is_no_more_than_the_loss(self):
        for hall in HALLS:
            kind, told = verdict(hall)
            worst = worst_loss(hall)
            if kind == "waits" and worst is not None:
                self.assertLessEqual(gain_of(hall, told), worst)


class BookingTest(unittest.TestCase):
    """[10]"""

    def test_what_is_lost_is_the_sum_of_the_stops_on_a_chain_less_a_rest(self):
        for hall, stops in live_halls(247, 80, 6):
            row = waits(hall, stops, 12)
            kept = Kept(hall)
            for (name, piece, purse), ticks in stops.items():
                kept.put_stop(name, piece, purse, ticks)
            for piece in (0, 1, 5, 11):
                way = read_way(hall, way_text(chain(hall, stops, piece)))
                self.assertTrue(is_chain(hall, stops, piece, way))
                booking, rest = booked(hall, stops, way)
                self.assertEqual(sum(booking.values()) - rest, row[piece])
                self.assertEqual(frozen(kept.lost(piece)), frozen((booking, rest)))
                self.assertEqual(sum(ticks for at, ticks in lost_at(hall, stops, 12).items() if at <= piece), row[piece])
                for name, _, _ in needed_stops(hall, stops, piece):
                    self.assertIn(name, booking)
                for lot in least_lots(hall, stops, piece):
                    self.assertTrue(frees(hall, stops, piece, lot))
                    self.assertEqual(saved(hall, stops, piece, lot), row[piece])

    def test_what_is_kept_tells_what_a_new_one_would_tell(self):
        dice = random.Random(248)
        for at in range(40):
            desk = Desk(some_hall(dice, 2 + at % 3, 1, 2))
            kept = desk.kept()
            for _ in range(6):
                word, given = drawn_change(dice, kept.hall())
                getattr(kept, word)(*given)
            new = Kept(read_hall(show_hall(kept.hall())))
            for (name, piece, purse), ticks in read_stops(kept.hall(), show_stops(kept.stops())).items():
                self.assertTrue(new.put_stop(name, piece, purse, ticks))
            self.assertTrue(new == kept)
            for call in ("verdict", "waits", "lost"):
                given = () if call == "verdict" else (4,)
                try:
                    told = frozen(getattr(new, call)(*given))
                except HallError as error:
                    with self.assertRaises(type(error)):
                        getattr(kept, call)(*given)
                    continue
                self.assertEqual(frozen(getattr(kept, call)(*given)), told)
        self.assertEqual(sorted(set(CHANGES)), sorted(name for name in dir(Kept) if name.startswith(("put", "take"))))


class TextsTest(unittest.TestCase):
    def test_names_that_are_words_of_texts(self):
        names = ("belt", "down", "filler", "machine", "next", "up")
        machines = tuple((name, 2, () if name == "filler" else ((3, 1), (1, 0))) for name in names)
        belts = (("belt", "filler", 2, 2), ("down", "belt", 1, 1), ("next", "up", 3, 0), ("up", "filler", 2, 1), ("machine", "down", 1, 1),
                 ("filler", "next", 4, 0))
        hall = (machines, belts, "filler")
        self.assertEqual(through_texts(hall), hall)
        self.assertTrue(is_live(hall))
        stops = {(name, piece, purse): 1 for name in names if name != "filler" for piece in (0, 7) for purse in (0, 1)}
        self.assertEqual(read_stops(hall, show_stops(stops)), stops)
        for piece in (0, 3, 9):
            way = chain(hall, stops, piece)
            self.assertEqual(read_way(hall, way_text(way)), way)
        # The STATES are many, but the desk is asked only of what needs none of them.
        desk = Desk(hall)
        self.assertEqual([desk.execute("stop next 0 1 1"), desk.execute("stop up 2 0 3"), desk.execute("stops")],
                         [["done"], ["done"], ["next 0 1 1", "up 2 0 3"]])
        self.assertEqual(desk.execute("machine cut 1 belt cut machine 1 1"), ["done"])


TREE = ((("cap", 4, ((4, 0),)), ("fill", 4, ())), (("cap", "fill", 2, 2),), "fill")
WAITING = ((("cap", 2, ((2, 1),)), ("fill", 3, ())), (("cap", "fill", 1, 1),), "fill")
LOSING = ((("cap", 2, ((4, 0),)), ("fill", 3, ())), (("cap", "fill", 1, 1),), "fill")
STOPS = {("cap", 2, 0): 1, ("cap", 0, 0): 2}
WALK = ("cap", (("down", 0),))
# The files whose functions are asked of HALLS that are not LIVE, too.
ALSO_DEAD = ("forms", "halltexts", "halls", "arcs", "rings", "runs", "ticks", "states", "tables", "verdicts", "rooms", "spares", "books", "losses")


def samples():
    """For the functions of the interface arguments as described, new ones at each call."""
    run = begins(WAITING, STOPS, 4)
    state = full_state(WAITING, "cap")
    moment = next_moment(WAITING, STOPS, 4, first_moment(WAITING, STOPS, 4))
    paper = pace_paper(WAITING)
    halls = (WAITING, TREE, LOSING)
    # Where an argument has other values in some files, they stand in a dict by the files' names, None being for the others.
    return {
        "n": (6,),
        "d": (-4,),
        "one": {"fractions": ((1, 2),), "controls": (run,), "arcs": ("cap",)},
        "other": {"fractions": ((1, 3),), "controls": (run,), "arcs": ("fill",)},
        "thing": (None, [], {}, (), 3, paper, [paper, paper], dict(paper[2]), STOPS, run, verdict(TREE), least_rooms(TREE, 2), book_of(TREE)),
        "names": (("a", "b"),),
        "belts": ((("a", "b", 1, 0),),),
        "name": {"forms": ("a",), "purses": ("cap",), None: ("cap", "fill")},
        "text": {"halltexts": (show_hall(TREE),), "stoptexts": ("cap 0 0 1", "cap down 0")},
        "hall": {file: halls + (DEAD,) for file in ALSO_DEAD} | {None: halls},
        "stops": (STOPS, {}, {("cap", 1, 0): 7}),
        "way": (WALK, ("fill", (("up", 0), ("next", "cap"), ("down", 0)))),
        "walk": (WALK,),
        "arc": (("down", 0), ("next", "cap")),
        "index": (0, 1),
        "room": (3,),
        "first": {"windows": (1,), None: (2,)},
        "last": (4,),
        "time": (3,),
        "many": (0, 3),
        "piece": (2,),
        "moment": (moment,),
        "run": (run,),
        "purse": ((3, 1),),
        "taken": ({2: 1, 0: 3}, {}, {1: 4}),
        "pieces": ((0, 2),),
        "back": (1,),
        "size": (3,),
        "cards": ([("cap", "fill", 2)],),
        "floors": ({("cap", 2): 9, ("cap", 0): 1},),
        "state": (state,),
        "purses": (((1, 1),), ()),
        "most": (2,),
        "prices": ((3,),),
        "rooms": ((2,),),
        "change": (("room", 0), ("time", "cap")),
        "times": (1,),
        "fraction": ((7, 2),),
        "lap": (paper[1],),
        "paper": (paper,),
        "chain": (chain(WAITING, STOPS, 2),),
        "lot": (("cap",), ()),
    }


def calls():
    """Tuples (file, name, arguments), for each function of the interface some that it takes."""
    told = samples()
    for file, name, arguments in listed():
        if file == "errors" or "." in name or name in ("Kept", "Desk"):
            continue
        rows = [told[argument] if type(told[argument]) is tuple else told[argument].get(file, told[argument].get(None)) for argument in arguments]
        for given in itertools.product(*rows):
            yield file, name, given


def parts_in(thing):
    """All lists and dicts in a value, one in another too."""
    found = [thing] if type(thing) in (list, dict) else []
    if type(thing) in (list, tuple, dict):
        for part in thing.values() if type(thing) is dict else thing:
            found.extend(parts_in(part))
    return found


class EachFunctionTest(unittest.TestCase):
    """[3]: arguments stay; equal ones give equal results; what is returned is new, and ascending."""

    def outcome(self, call, given):
        """What is returned and how it looks; None and the error's look if the call raises one, or if a value was not as described."""
        try:
            told = call(*given)
            return told, frozen(told)
        except (HallError, IndexError, KeyError, TypeError, ValueError, ZeroDivisionError) as error:
            return None, (type(error).__name__, frozen(list(vars(error).values())) if isinstance(error, HallError) else "")

    def test_all_of_the_interface(self):
        dice = random.Random(249)
        rows = list(calls())
        first = {}
        returned = {}
        for at, (file, name, given) in enumerate(rows):
            call = getattr(importlib.import_module("fillerfed." + file), name)
            before = frozen(given)
            told, look = self.outcome(call, given)
            self.assertEqual(frozen(given), before, name)
            first[at] = look
            if told is None:
                continue
            returned[name] = True
            handed = [id(part) for part in parts_in(list(given))]
            found = parts_in(told)
            self.assertEqual(len({id(part) for part in found}), len(found), name)
            self.assertFalse([part for part in found if id(part) in handed], name)
            for part in found:
                if type(part) is dict:
                    self.assertEqual(list(part), sorted(part), name)
            # What is returned may be changed: nothing comes of it.
            for part in found:
                part.clear()
            self.assertEqual([frozen(given), self.outcome(call, given)[1]], [before, look], name)
        # The same in another order, with equal arguments that are others.
        again = list(enumerate(calls()))
        dice.shuffle(again)
        for at, (file, name, given) in again:
            call = getattr(importlib.import_module("fillerfed." + file), name)
            self.assertEqual(self.outcome(call, copy.deepcopy(given))[1], first[at], name)
        functions = {name for file, name, _ in listed() if file != "errors" and "." not in name and name not in ("Kept", "Desk")}
        self.assertEqual(set(returned), functions)

    def test_dicts_that_are_handed_in_stand_in_any_order(self):
        dice = random.Random(250)
        for hall, _ in live_halls(251, 40, 4):
            stops = some_stops(dice, hall, 6)
            mixed = list(stops.items())
            dice.shuffle(mixed)
            other = dict(mixed)
            for call in (lambda row: begins(hall, row, 6), lambda row: chain(hall, row, 5), lambda row: needed_stops(hall, row, 5),
                         lambda row: least_lots(hall, row, 5),
                         lambda row: lost_at(hall, row, 6), lambda row: booked(hall, row, chain(hall, row, 5))):
                self.assertEqual(frozen(call(other)), frozen(call(stops)))
            table = gains(hall)
            if table:
                mixed = list(table.items())
                dice.shuffle(mixed)
                self.assertTrue(is_book((hall, ("holds", dict(mixed)))))
        self.assertEqual(states_of(TREE), tuple(gains(TREE)))


if __name__ == "__main__":
    unittest.main()
