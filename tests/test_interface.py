"""What the document's interface lists stands in the file under which it is listed, with these arguments."""

import ast
import re
import unittest
from pathlib import Path

PACKAGE = Path(__file__).parent.parent / "fillerfed"

# A row for each file; a class has the arguments of its constructor.
INTERFACE = """
errors HallError Dead(ring) NoBelt(index) NoCommand() NoMachine(name) NoText(line) Nothing() TooMany(most) Wrong(place)
fractions reduced(n,d) added(one,other) lessened(one,other) times(one,other) compared(one,other) fraction_text(one)
forms is_integer(thing) is_count(thing) is_name(thing) is_fraction(thing) is_purse(thing) is_machine(thing) is_belt(thing)
forms is_joined(names,belts,name) is_hall(thing) is_stops(hall,thing) is_arc(hall,thing)
halltexts show_hall(hall) read_hall(text)
stoptexts show_stops(stops) way_text(way) read_stops(hall,text) read_way(hall,text)
halls names_of(hall) machine_of(hall,name) purses_of(hall,name) purse_places(hall) belts_to(hall,name) belts_from(hall,name)
halls neighbours(hall,name) time_of(hall,name) pace_of(hall) with_time(hall,name,time) with_purses(hall,name,purses)
halls with_belt(hall,index,room,first)
arcs arcs_of(hall) arcs_from(hall,name) arcs_to(hall,name) least_arcs(hall,one,other) start_of(hall,arc) end_of(hall,arc)
arcs growth_of(hall,arc) least_growth(hall,one,other) does_end(arc)
rings dead_ring(hall) is_live(hall) is_dead_ring(hall,thing) is_rise(hall,thing) rise(hall)
ticks first_moment(hall,stops,many) next_moment(hall,stops,many,moment) tick_begins(hall,stops,many)
runs begins(hall,stops,many) ends(hall,stops,many) waits(hall,stops,many) tight_arcs(hall,stops,run,name,piece)
runs first_wait(hall,stops,many)
purses taken_of(stops,name,index) holdings(hall,stops,many) held(purse,taken,piece) is_let(purse,taken) are_let(hall,stops)
purses first_over(purse,taken) first_not_let(hall,stops) all_let(purse,many)
windows most_taken(purse,first,last) greedy_sum(purse,pieces) least_size(back,taken) over_window(purse,taken)
windows greedy(purse,pieces) least_back(size,taken)
walks is_way(hall,thing) is_walk(hall,thing) end_of_way(hall,way) indexes(hall,way) ended(hall,way) way_to_filler(hall,name)
walks index_of(hall,way) all_walks(hall,many)
walkstops stops_of(hall,way) ticks_of(hall,way) gain_of(hall,way) ticks_with(hall,way,stops) pays(hall,walk)
walkstops told_wait(hall,walk)
states is_state(hall,thing) full_state(hall,name) behind(hall,state,arc) states_of(hall)
tables is_table(hall,thing) gains(hall)
verdicts paying_walk(hall) holds(hall) is_verdict(hall,thing) verdict(hall)
controls is_run(hall,stops,thing) is_earlier(one,other) keeps(hall,stops,run,cards) waits_in(hall,run) greatest_run(one,other)
controls least_run(one,other) held_back(hall,stops,floors,many) carded(hall,stops,cards,many) floors_of(run)
controls latest(hall,stops,piece)
trees is_tree(hall) is_line(hall) belt_home(hall,name) way_home(hall,name) back_home(hall,name) there_and_back(hall,name)
shares slacks(hall) straight_gains(hall) has_shares(hall) is_just_so(hall) share_gain(hall,state) spoiled(hall)
rooms is_rooms(hall,thing) is_evidence(hall,thing) is_least_rooms(hall,most,thing) with_rooms(hall,rooms) evidence(hall)
rooms least_rooms(hall,most) cheapest_rooms(hall,most,prices)
spares changes_of(hall) spares(hall) changed(hall,change,times) is_tight(hall) is_spare_paper(hall,thing)
spares is_often_paper(hall,change,most,thing) spare_paper(hall) often(hall,change,most) often_paper(hall,change,most)
paces way_states(hall) state_of_way(hall,way) is_round(hall,thing) are_bounds(hall,fraction,thing) is_pace_paper(hall,thing)
paces mean_of(hall,lap) worst_pace(hall) pace_paper(hall) latest_tick(hall,paper,piece) pace_way(hall,paper,times)
losses losses(hall,many) loss_way(hall,piece) worst_loss(hall) loss_paper(hall) is_loss_paper(hall,thing)
blame chain(hall,stops,piece) needed_stops(hall,stops,piece) is_chain(hall,stops,piece,thing)
booking booked(hall,stops,chain) lost_at(hall,stops,many) saved(hall,stops,piece,lot) frees(hall,stops,piece,lot)
booking least_lots(hall,stops,piece)
books book_of(hall) is_book(thing) word_of(hall)
kept Kept(hall) Kept.put_machine(machine,belt) Kept.take_machine(name) Kept.put_time(name,time) Kept.put_purses(name,purses)
kept Kept.put_filler(name) Kept.put_belt(belt) Kept.take_belt(index) Kept.put_room(index,room,first)
kept Kept.put_stop(name,piece,purse,ticks) Kept.hall() Kept.stops() Kept.verdict() Kept.waits(many) Kept.lost(piece)
kept Kept.undo() Kept.turned() Kept.twin() Kept.__eq__(other)
desk Desk(hall) Desk.execute(line) Desk.kept() Desk.twin() Desk.__eq__(other)
"""
# What has another name than in the document, which calls it `round`: L15 keeps that for Python's own, and all of them are
# passed by position.


def listed():
    """The tuples (file, name, arguments) of the interface; arguments are None for a class without a constructor."""
    for row in INTERFACE.strip().split("\n"):
        file, *words = row.split(" ")
        for word in words:
            name, bracket, arguments = word.rstrip(")").partition("(")
            yield file, name, [part for part in arguments.split(",") if part] if bracket else None


def arguments_of(node):
    """The names of the arguments of a function, or of a class's constructor, without self; None if there is none, or more kinds."""
    if isinstance(node, ast.ClassDef):
        makers = [part for part in node.body if isinstance(part, ast.FunctionDef) and part.name == "__init__"]
        return arguments_of(makers[0])[1:] if makers else None
    told = node.args
    return None if told.vararg or told.kwarg or told.kwonlyargs or told.defaults else [argument.arg for argument in told.args]


def found_in(file, name):
    """The definitions of a name in the file, `Class.method` being one in the body of the class itself."""
    nodes = ast.parse((PACKAGE / (file + ".py")).read_text()).body
    for part in name.split("."):
        found = [node for node in nodes if isinstance(node, (ast.FunctionDef, ast.ClassDef)) and node.name == part]
        nodes = found[0].body if found else []
    return found


class InterfaceTest(unittest.TestCase):
    def test_each_name_is_defined_in_its_file(self):
        for file, name, arguments in listed():
            with self.subTest(file=file, name=name):
                found = found_in(file, name)
                self.assertEqual(len(found), 1)
                self.assertEqual(arguments_of(found[0]), ["self"] + arguments if "." in name else arguments)

    def test_it_is_what_the_document_lists(self):
        # The row of mean_of is told with the document's own name of the argument.
        document = PACKAGE.parent.parent / "shared" / "DOC.md"
        if not document.exists():
            self.skipTest("the document is not here")
        text = document.read_text(encoding="utf-8").partition("# The interface")[2]
        told = {}
        for row in re.findall(r"^- fillerfed/([a-z]+)\.py (.*)$", text, re.M):
            owner = ""
            for mark in re.findall(r"(class )?`([A-Za-z_]+)(?:\(([^`]*)\))?`", row[1]):
                if mark[1] == mark[1].lower() or mark[1] in ("Kept", "Desk") or row[0] == "errors":
                    name = mark[1] if mark[0] or not owner else owner + mark[1]
                    owner = name + "." if mark[0] and row[0] != "errors" else owner
                    arguments = mark[2].replace(" ", "").replace("round", "lap")
                    told.setdefault(row[0], {})[name] = None if name == "HallError" else [part for part in arguments.split(",") if part]
        listed_here = {}
        for file, name, arguments in listed():
            if not name.endswith("__eq__"):
                listed_here.setdefault(file, {})[name] = arguments
        self.assertEqual(listed_here, told)

    def test_the_first_file_is_empty(self):
        self.assertEqual((PACKAGE / "__init__.py").read_bytes(), b"")


if __name__ == "__main__":
    unittest.main()
