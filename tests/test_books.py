"""[36]: books."""

import random
import unittest

from fillerfed.books import book_of, is_book, word_of
from fillerfed.errors import Dead, TooMany
from fillerfed.forms import is_hall
from fillerfed.rings import dead_ring, is_live
from fillerfed.tables import is_table
from fillerfed.verdicts import is_verdict, verdict
from samples import (DEAD, HALL, LONE, NEVER_RIGHT, WIDE, any_values, check_new, frozen, least_pace, live_halls, own_gains, own_pace,
                     raised, same_after, some_halls, with_pace)

SMALL = [hall for hall, _ in live_halls(210, 90, 4)]
HALLS = SMALL + [with_pace(hall, least_pace(hall)) for hall in SMALL[:40] if least_pace(hall)] + [LONE]
STILL = [hall for hall in some_halls(211, 60) if not is_live(hall)] + [DEAD]


class BookTest(unittest.TestCase):
    def test_of_live_halls(self):
        kinds = {"holds": 0, "waits": 0}
        for hall in HALLS:
            book = same_after(self, book_of, hall)
            self.assertEqual(frozen(book), frozen((hall, verdict(hall))))
            self.assertIs(same_after(self, is_book, book), True)
            kinds[book[1][0]] += 1
            self.assertEqual(book[1][0] == "holds", own_gains(hall) is not None)
        self.assertGreater(min(kinds.values()), 30)
        check_new(self, lambda hall: book_of(hall)[1][1], LONE)

    def test_verdicts_of_other_halls(self):
        dice = random.Random(212)
        verdicts = [verdict(hall) for hall in HALLS]
        kinds = {True: 0, False: 0}
        for hall in HALLS:
            for told in dice.sample(verdicts, 3):
                right = is_verdict(hall, told)
                self.assertIs(is_book((hall, told)), right)
                kinds[right] += 1
        for hall, told in zip(HALLS, verdicts):
            pace = own_pace(hall)
            for other in (pace + 1, pace - 1):
                if other:
                    right = is_verdict(with_pace(hall, other), told)
                    self.assertIs(is_book((with_pace(hall, other), told)), right)
                    kinds[right] += 1
        self.assertGreater(min(kinds.values()), 40)

    def test_of_halls_that_are_not_live(self):
        ring = ((("a", 1, ()), ("b", 1, ()), ("fill", 9, ())), (("a", "b", 1, 1), ("b", "a", 1, 1), ("a", "fill", 1, 1)), "fill")
        table = {(name, ((), (), ())): 0 for name in ("a", "b", "fill")}
        self.assertEqual([is_table(ring, table), is_book((ring, ("holds", table)))], [True, False])
        for hall in STILL:
            self.assertEqual(raised(self, Dead, book_of, hall).ring, dead_ring(hall))
            for told in (("dead", dead_ring(hall)), ("holds", {}), ("waits", (hall[2], (("next", hall[2]),))), None):
                self.assertIs(is_book((hall, told)), False)

    def test_too_many(self):
        self.assertEqual(raised(self, TooMany, book_of, WIDE).most, 20000)
        # A BOOK of it there is all the same: of a WALK that PAYS nothing has to be sought.
        self.assertIs(is_book((WIDE, ("waits", ("cap", (("down", 2),))))), True)

    def test_one_part_otherwise(self):
        for hall in (HALL, LONE, HALLS[5]):
            book = book_of(hall)
            self.assertIs(is_book(book), True)
            for thing in NEVER_RIGHT + (list(book), book[:1], book + (0,), book[::-1], (hall, list(book[1])), (hall, book[1][:1]), (hall, book[1][1]),
                                        (list(hall), book[1]), (hall[:2], book[1]), (hall, ("Holds", book[1][1])), (hall, ("dead", book[1][1])),
                                        {hall: book[1][0]}):
                self.assertIs(is_book(thing), False)
            for thing in NEVER_RIGHT:
                self.assertIs(is_book((hall, thing)), False)
                self.assertIs(is_book((thing, book[1])), False)
                self.assertIs(is_book((hall, (thing, book[1][1]))), False)
                self.assertIs(is_book((hall, (book[1][0], thing))), False)
                self.assertIs(is_book(((hall[0] + (thing,), hall[1], hall[2]), book[1])), False)

    def test_values_of_any_kind(self):
        for thing in any_values():
            for other in (thing, (thing, thing), (HALL, thing), (thing, ("holds", {})), (HALL, ("waits", thing)), (HALL, ("holds", thing)),
                          [HALL, verdict(HALL)]):
                self.assertIs(is_book(other), False)

    def test_of_a_hall_of_very_many_machines(self):
        names = sorted("".join(letters) for letters in ((a, b, c) for a in "abcdefg" for b in "abcdefg" for c in "abcdefg"))[:300]
        machines = tuple((name, 1, ()) for name in names)
        for belts in (tuple((one, other, 1, 1) for one, other in zip(names, names[1:])), tuple((one, names[0], 1, 0) for one in names[1:])):
            hall = (machines, belts, names[0])
            self.assertTrue(is_hall(hall))
            contents = tuple(() for _ in names)
            self.assertIs(is_book((hall, ("holds", {(names[0], contents): 0}))), False)
            self.assertIs(is_book((hall, ("waits", (names[1], (("down", 0),))))), belts[0][3] == 0)
        rings = tuple((one, other, 1, 1) for one, other in zip(names, names[1:] + names[:1]))
        self.assertIs(is_book(((machines, rings, names[0]), ("holds", {}))), False)


class WordTest(unittest.TestCase):
    def test_all_four_ways(self):
        for hall in HALLS:
            self.assertEqual(same_after(self, word_of, hall), "holds" if own_gains(hall) is not None else "waits")
        for hall in STILL:
            self.assertEqual(same_after(self, word_of, hall), "dead")
        self.assertEqual(word_of(WIDE), "many")
        # Dead comes ahead of TooMany.
        dead = (WIDE[0], WIDE[1] + (("cap", "wash", 1, 1),), WIDE[2])
        self.assertEqual(word_of(dead), "dead")


if __name__ == "__main__":
    unittest.main()
