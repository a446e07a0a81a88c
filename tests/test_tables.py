"""Points 1 to 5: tables, stands, turnings of a table, rows and runs."""

import itertools
import unittest

from tests.helpers import CALM_ONE, ODD_THINGS, SWAP, TURN_THREE, Case, closure, eight_by_halves
from unseenturn import tables
from unseenturn.errors import BadRow, BadRun, BadStand, BadTable, BadTurning
from unseenturn.tables import (
    added, is_among, is_stand, is_table, is_turning, is_whole, less, need_row, need_stand, need_table, need_turning,
    nought, opposite, seats, stands, turned, walked)

CALM_EIGHT = (tuple(range(8)),)
CALM_THREE = ((0, 1, 2),)
BAD_TABLE = (3, ((0, 1), (1, 1)))


class WholeNumbers(unittest.TestCase):
    def test_limits_are_told(self):
        told = (tables.MOST_SEATS, tables.MOST_FACES, tables.MOST_STANDS, tables.MOST_TURNINGS)
        self.assertEqual(told, (8, 9, 729, 128))

    def test_is_whole(self):
        for thing in (0, 1, -1, 10 ** 40):
            self.assertIs(is_whole(thing), True)
        for thing in (True, False, None, 1.0, "1", b"1", (1,), [1], int):
            self.assertIs(is_whole(thing), False)

    def test_is_among(self):
        for thing in (2, 3, 4):
            self.assertIs(is_among(thing, 2, 4), True)
        for thing in (1, 5, -3, None, "3", 3.0, True, (3,), [3]):
            self.assertIs(is_among(thing, 2, 4), False)
        self.assertIs(is_among(True, 0, 4), False)
        self.assertIs(is_among(False, 0, 4), False)
        self.assertIs(is_among(0, 1, 0), False)
        self.assertIs(is_among(thing=-2, least=-2, most=-2), True)


class Tables(Case):
    def good(self, table):
        self.assertIs(is_table(table), True)
        self.assertIsNone(need_table(table))

    def bad(self, place, table):
        self.assertIs(is_table(table), False)
        self.refused(BadTable, place, need_table, table)

    def test_good_ones(self):
        for table in (CALM_ONE, SWAP, TURN_THREE, (9, ((0,),)), (2, CALM_EIGHT), (9, CALM_THREE),
                      (3, (tuple(range(6)),)), (2, eight_by_halves()), (3, closure([(1, 2, 3, 4, 0), (1, 0, 2, 3, 4)], 5))):
            self.good(table)
        self.assertEqual(len(eight_by_halves()), 128)

    def test_no_tuple_of_two(self):
        for thing in ODD_THINGS + [(), (2,), (2, ((0,),), 3), [2, ((0,),)], "2a", {2: ((0,),), 3: 0}]:
            self.bad(None, thing)

    def test_faces(self):
        for faces in (1, 10, 0, -2, True, None, "2", 2.0, (2,), [2], 10 ** 30):
            self.bad("faces", (faces, ((0,),)))
        for faces in range(2, 10):
            self.good((faces, ((0,),)))

    def test_turnings_are_no_tuple_of_turnings(self):
        for thing in ODD_THINGS + [(), [(0,)], ([0],), ((),), ((1,),), ((0, 0),), ((0, 2),), ((-1, 0),), ((0, None),),
                                   ((0, True),), ((False, 1),), ((0, 1.0),), ((0, (1,)),), ((0, [1]),), (0,)]:
            self.bad("turnings", (2, thing))

    def test_turnings_that_do_not_rise(self):
        self.bad("turnings", (2, ((1, 0), (0, 1))))
        self.bad("turnings", (2, ((0, 1), (0, 1))))
        self.bad("turnings", (2, ((0, 1), (1, 0), (1, 0))))
        self.bad("turnings", (2, ((0, 1, 2), (2, 0, 1), (1, 2, 0))))

    def test_turnings_of_unlike_many_seats(self):
        self.bad("turnings", (2, ((0,), (0, 1))))
        self.bad("turnings", (2, ((0, 1), (0, 2, 1))))
        self.bad("turnings", (2, (tuple(range(9)),)))

    def test_more_than_128_turnings(self):
        orders = tuple(itertools.permutations(range(6)))
        self.bad("turnings", (2, orders[:129]))
        self.bad("closed", (2, orders[:128]))
        self.bad("turnings", (2, orders))

    def test_more_than_729_stands(self):
        for faces, many in ((9, 4), (3, 7), (4, 5), (6, 4), (5, 5), (9, 8)):
            self.bad("stands", (faces, (tuple(range(many)),)))
        for faces, many in ((9, 3), (3, 6), (2, 8), (4, 4), (5, 4)):
            self.good((faces, (tuple(range(many)),)))

    def test_closed(self):
        self.bad("closed", (2, ((1, 0),)))
        self.bad("closed", (2, ((0, 1, 2), (1, 2, 0))))
        self.bad("closed", (2, ((0, 1, 2), (0, 2, 1), (1, 0, 2))))
        self.bad("closed", (2, ((1, 2, 0), (2, 0, 1))))

    def test_one_left_out(self):
        for turnings in (eight_by_halves(), closure([(1, 2, 3, 0), (1, 0, 2, 3)], 4), TURN_THREE[1]):
            for out in range(len(turnings)):
                self.bad("closed", (2, turnings[:out] + turnings[out + 1:]))

    def test_which_of_two_is_told(self):
        self.bad(None, (1, ((0, 0),), 3))
        self.bad("faces", (1, ((0, 0),)))
        self.bad("faces", (10, None))
        self.bad("turnings", (9, (tuple(range(8)), tuple(range(8)))))
        self.bad("turnings", (9, ((3, 2, 1, 0), (0, 1, 2, 3))))
        self.bad("stands", (9, ((1, 0, 2, 3),)))
        self.bad("closed", (9, ((1, 0, 2),)))

    def test_bad_tables_come_ahead_of_all(self):
        bad = BAD_TABLE
        for call, args in ((seats, ()), (stands, ()), (is_stand, (None,)), (is_turning, (None,)), (need_stand, (None,)),
                           (need_turning, (None,)), (need_row, (None,)), (walked, (None, None)), (nought, ()),
                           (added, ((0, 0), (0, 0))), (less, ((0, 0), (0, 0))), (opposite, ((0, 0),))):
            self.refused(BadTable, "turnings", call, bad, *args)
            self.refused(BadTable, None, call, [], *args)
            self.refused(BadTable, "closed", call, (2, ((1, 0),)), *args)


class Stands(Case):
    def test_seats(self):
        self.assertEqual([seats(CALM_ONE), seats(SWAP), seats(TURN_THREE), seats((2, CALM_EIGHT))], [1, 2, 3, 8])

    def test_stands(self):
        self.assertEqual(stands(CALM_ONE), ((0,), (1,)))
        self.assertEqual(stands(SWAP), ((0, 0), (0, 1), (0, 2), (1, 0), (1, 1), (1, 2), (2, 0), (2, 1), (2, 2)))
        self.assertEqual(stands((9, CALM_THREE)), tuple(itertools.product(range(9), repeat=3)))
        self.assertEqual(len(stands((2, CALM_EIGHT))), 256)

    def test_need_stand(self):
        for stand in stands(SWAP):
            self.assertIs(is_stand(SWAP, stand), True)
            self.assertIsNone(need_stand(SWAP, stand))

    def bad_stand(self, number, thing):
        self.assertIs(is_stand(SWAP, thing), False)
        self.refused(BadStand, number, need_stand, SWAP, thing)

    def test_no_stand(self):
        for thing in ODD_THINGS + [(), (0,), (0, 0, 0), [0, 0], (0,) * 9]:
            self.bad_stand(None, thing)
        for thing in ((3, 0), (-1, 0), (True, 0), (None, 9), ("0", 0), ((), 0), ([0], 0), (0.0, 1), (3, 3)):
            self.bad_stand(0, thing)
        for thing in ((0, 3), (2, -1), (0, False), (0, None), (1, [1]), (1, 1.0)):
            self.bad_stand(1, thing)


class TurningsOfATable(Case):
    def test_good_ones(self):
        for turning in TURN_THREE[1]:
            self.assertIs(is_turning(TURN_THREE, turning), True)
            self.assertIsNone(need_turning(TURN_THREE, turning))

    def bad_turning(self, number, thing):
        self.assertIs(is_turning(TURN_THREE, thing), False)
        self.refused(BadTurning, number, need_turning, TURN_THREE, thing)

    def test_no_turning(self):
        for thing in ODD_THINGS + [(), (0, 1), (0, 1, 2, 3), [0, 1, 2]]:
            self.bad_turning(None, thing)
        for thing in ((3, 1, 2), (-1, 1, 2), (False, 1, 2), ("0", 1, 2), ([0], 1, 2), (None, 0, 0)):
            self.bad_turning(0, thing)
        for thing in ((0, 0, 0), (0, True, 2), (2, 3, 0), (1, 1, 5), (0, 1.0, 2)):
            self.bad_turning(1, thing)
        for thing in ((0, 1, 0), (0, 1, 1), (1, 2, 3), (1, 2, None), (1, 0, True)):
            self.bad_turning(2, thing)

    def test_a_turning_that_the_table_lacks(self):
        for thing in ((0, 2, 1), (1, 0, 2), (2, 1, 0)):
            self.bad_turning(3, thing)

    def test_turned(self):
        self.assertEqual(turned((1, 2, 0), (7, 8, 5)), (5, 7, 8))
        self.assertEqual(turned((0, 1, 2), (7, 8, 5)), (7, 8, 5))
        self.assertEqual(turned((2, 0, 3, 1), (4, 5, 6, 7)), (5, 7, 4, 6))
        self.assertEqual(turned(turning=(1, 0), stand=(0, 1)), (1, 0))

    def test_one_behind_another_one(self):
        first, later = (1, 2, 0, 3), (0, 3, 1, 2)
        self.assertEqual(turned(first, (5, 6, 7, 8)), (7, 5, 6, 8))
        self.assertEqual(turned(later, (7, 5, 6, 8)), (7, 6, 8, 5))
        both = tuple(later[first[seat]] for seat in range(4))
        self.assertEqual(both, (3, 1, 0, 2))
        self.assertEqual(turned(both, (5, 6, 7, 8)), (7, 6, 8, 5))


class Adding(unittest.TestCase):
    def test_by_hand(self):
        self.assertEqual(added(SWAP, (1, 2), (1, 2)), (2, 1))
        self.assertEqual(less(SWAP, (0, 2), (1, 1)), (2, 1))
        self.assertEqual(opposite(SWAP, (1, 2)), (2, 1))
        self.assertEqual(opposite(SWAP, (0, 1)), (0, 2))
        self.assertEqual(nought(SWAP), (0, 0))
        self.assertEqual(nought((2, CALM_EIGHT)), (0,) * 8)
        self.assertEqual(added(TURN_THREE, (1, 1, 0), (1, 0, 1)), (0, 1, 1))

    def test_by_names(self):
        self.assertEqual(added(table=SWAP, stand=(1, 2), other=(0, 1)), (1, 0))
        self.assertEqual(less(table=SWAP, stand=(1, 2), other=(0, 1)), (1, 1))
        self.assertEqual(opposite(table=SWAP, stand=(1, 2)), (2, 1))

    def test_laws(self):
        for stand in stands(SWAP):
            self.assertEqual(added(SWAP, stand, opposite(SWAP, stand)), nought(SWAP))
            for other in stands(SWAP):
                self.assertEqual(added(SWAP, stand, other), tuple((a + b) % 3 for a, b in zip(stand, other)))
                self.assertEqual(less(SWAP, added(SWAP, stand, other), other), stand)
                for turning in SWAP[1]:
                    self.assertEqual(turned(turning, added(SWAP, stand, other)),
                                     added(SWAP, turned(turning, stand), turned(turning, other)))


class RowsAndRuns(Case):
    def test_need_row(self):
        for row in ((), ((0, 0),), ((1, 2), (2, 2), (0, 1))):
            self.assertIsNone(need_row(SWAP, row))
        for thing in (None, [], [(0, 0)], "", 3, {}, True):
            self.refused(BadRow, None, need_row, SWAP, thing)
        self.refused(BadRow, 0, need_row, SWAP, ((3, 0), (0, 0)))
        self.refused(BadRow, 0, need_row, SWAP, (0, 0))
        self.refused(BadRow, 1, need_row, SWAP, ((0, 0), [0, 0], 7))
        self.refused(BadRow, 2, need_row, SWAP, ((0, 0), (1, 0), (0, True)))

    def test_walked(self):
        self.assertEqual(walked(SWAP, ((1, 2), ()), ()), [(1, 2)])
        self.assertEqual(walked(SWAP, ((1, 2), ((1, 0),)), ((0, 1),)), [(1, 2), (2, 2)])
        run, row = ((0, 1, 1), ((1, 2, 0), (0, 1, 2), (2, 0, 1))), ((1, 0, 0), (0, 1, 1), (0, 0, 1))
        self.assertEqual(walked(TURN_THREE, run, row), [(0, 1, 1), (0, 0, 1), (0, 1, 0), (1, 0, 1)])
        self.assertEqual(walked(table=SWAP, run=((1, 2), ()), row=()), [(1, 2)])

    def test_what_is_told_is_the_asker_s_own(self):
        run, row = ((1, 2), ((1, 0),)), ((0, 1),)
        told = walked(SWAP, run, row)
        told[0] = None
        told.append(3)
        self.assertEqual(walked(SWAP, run, row), [(1, 2), (2, 2)])
        self.assertEqual((run, row), (((1, 2), ((1, 0),)), ((0, 1),)))

    def test_no_row_comes_ahead_of_no_run(self):
        self.refused(BadRow, None, walked, SWAP, None, None)
        self.refused(BadRow, 1, walked, SWAP, None, ((0, 0), (0, 3)))

    def test_no_run(self):
        row = ((0, 0), (0, 1))
        calm = ((0, 1), (0, 1))
        for thing in (None, (), ((0, 0),), ((0, 0), calm, 1), [(0, 0), calm], "ab"):
            self.refused(BadRun, None, walked, SWAP, thing, row)
        for thing in (None, (0, 3), [0, 0], (0,), (0, True)):
            self.refused(BadRun, "stand", walked, SWAP, (thing, calm), row)
            self.refused(BadRun, "stand", walked, SWAP, (thing, None), row)
        for thing in (None, (), calm[:1], calm + calm[:1], list(calm)):
            self.refused(BadRun, "turns", walked, SWAP, ((0, 0), thing), row)
        for thing in (None, (0,), (0, 0), (False, True), [0, 1], (0, 2)):
            self.refused(BadRun, 0, walked, SWAP, ((0, 0), (thing, thing)), row)
            self.refused(BadRun, 1, walked, SWAP, ((0, 0), ((1, 0), thing)), row)
        self.refused(BadRun, 0, walked, TURN_THREE, ((0, 0, 0), ((0, 2, 1),)), ((0, 0, 0),))


if __name__ == "__main__":
    unittest.main()
