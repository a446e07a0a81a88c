"""Points 20 and 21: orbits, least stands, which turnings keep a stand, ways and their balance."""

import unittest

from tests.helpers import (
    CALM_ONE, ODD_THINGS, SMALL_TABLES, SWAP, TURN_THREE, Case, all_orders, eight_by_halves, slow_least, slow_minus,
    slow_orbit, slow_orbits, slow_plus, slow_stands, slow_turned)
from unseenturn.company import many_orbits
from unseenturn.errors import BadStand, BadTable
from unseenturn.orbits import keeping, least_of, orbit_of, orbits, ways

BAD_TABLE = (2, ((1, 0),))
RING_FOUR = (2, ((0, 1, 2, 3), (1, 2, 3, 0), (2, 3, 0, 1), (3, 0, 1, 2)))


class Orbits(Case):
    def test_by_hand(self):
        self.assertEqual(least_of(TURN_THREE, (1, 0, 1)), (0, 1, 1))
        self.assertEqual(orbit_of(TURN_THREE, (1, 0, 1)), ((0, 1, 1), (1, 0, 1), (1, 1, 0)))
        self.assertEqual(orbits(TURN_THREE), ((0, 0, 0), (0, 0, 1), (0, 1, 1), (1, 1, 1)))
        self.assertEqual(keeping(TURN_THREE, (0, 1, 0)), ((0, 1, 2),))
        self.assertEqual(keeping(TURN_THREE, (1, 1, 1)), TURN_THREE[1])
        self.assertEqual(orbits(SWAP), ((0, 0), (0, 1), (0, 2), (1, 1), (1, 2), (2, 2)))
        self.assertEqual(keeping(RING_FOUR, (1, 0, 1, 0)), ((0, 1, 2, 3), (2, 3, 0, 1)))
        self.assertEqual(orbit_of(RING_FOUR, (1, 0, 1, 0)), ((0, 1, 0, 1), (1, 0, 1, 0)))
        self.assertEqual(orbits(CALM_ONE), ((0,), (1,)))

    def test_not_reversed_where_that_is_something_else(self):
        turnings = ((0, 1, 2), (1, 2, 0), (2, 0, 1))
        self.assertEqual(orbits((3, turnings))[4:6], ((0, 1, 2), (0, 2, 1)))
        self.assertEqual(least_of((3, turnings), (2, 1, 0)), (0, 2, 1))
        self.assertEqual(keeping((2, ((0, 1, 2), (0, 2, 1))), (0, 1, 1)), ((0, 1, 2), (0, 2, 1)))
        self.assertEqual(keeping((2, ((0, 1, 2), (0, 2, 1))), (0, 0, 1)), ((0, 1, 2),))

    def test_against_all_turnings(self):
        for table in SMALL_TABLES:
            self.assertEqual(orbits(table), tuple(slow_orbits(table)))
            for stand in slow_stands(table):
                self.assertEqual(least_of(table, stand), slow_least(table, stand))
                self.assertEqual(orbit_of(table, stand), tuple(sorted(slow_orbit(table, stand))))
                kept = tuple(turning for turning in table[1] if slow_turned(turning, stand) == stand)
                self.assertEqual(keeping(table, stand), kept)
                self.assertEqual(len(kept) * len(orbit_of(table, stand)), len(table[1]))

    def test_as_many_as_turnings_leave_stands_on_the_mean(self):
        for table in SMALL_TABLES + [(2, eight_by_halves()), (3, all_orders(5)), (9, ((0, 1, 2), (1, 2, 0), (2, 0, 1)))]:
            pairs = sum(len(keeping(table, stand)) for stand in slow_stands(table))
            self.assertEqual(len(orbits(table)) * len(table[1]), pairs)
            self.assertEqual(len(orbits(table)), many_orbits(*table))

    def test_by_names(self):
        self.assertEqual(least_of(table=SWAP, stand=(2, 1)), (1, 2))
        self.assertEqual(orbit_of(table=SWAP, stand=(2, 1)), ((1, 2), (2, 1)))
        self.assertEqual(keeping(table=SWAP, stand=(2, 2)), ((0, 1), (1, 0)))
        self.assertEqual(ways(table=SWAP, stand=(2, 2), deed=(0, 1)), (((0, 2), 2),))
        self.assertEqual(len(orbits(table=SWAP)), 6)


class Ways(Case):
    def test_by_hand(self):
        # (0, 1) or (1, 0), and (0, 2): (0, 0) or (1, 2).
        self.assertEqual(ways(SWAP, (0, 1), (0, 2)), (((0, 0), 1), ((1, 2), 1)))
        self.assertEqual(ways(SWAP, (1, 1), (0, 2)), (((0, 1), 2),))
        # (0, 0, 1), (1, 0, 0) or (0, 1, 0), and (1, 0, 0).
        self.assertEqual(ways(TURN_THREE, (0, 0, 1), (1, 0, 0)), (((0, 0, 0), 1), ((0, 1, 1), 2)))
        self.assertEqual(ways(TURN_THREE, (0, 0, 0), (0, 1, 0)), (((0, 0, 1), 3),))

    def test_against_all_turnings(self):
        for table in SMALL_TABLES:
            for stand in slow_stands(table):
                for deed in slow_stands(table):
                    come = [slow_least(table, slow_plus(table, slow_turned(turning, stand), deed))
                            for turning in table[1]]
                    told = ways(table, stand, deed)
                    self.assertEqual(told, tuple((least, come.count(least)) for least in sorted(set(come))))
                    self.assertEqual(sum(number for _, number in told), len(table[1]))

    def test_the_same_for_what_is_turned(self):
        for table in SMALL_TABLES[3:8]:
            for stand in slow_stands(table):
                for deed in slow_stands(table):
                    told = ways(table, stand, deed)
                    for turning in table[1]:
                        self.assertEqual(ways(table, slow_turned(turning, stand), deed), told)
                        self.assertEqual(ways(table, stand, slow_turned(turning, deed)), told)

    def test_balance(self):
        for table in SMALL_TABLES:
            least = orbits(table)
            for deed in least:
                back = slow_minus(table, (0,) * len(deed), deed)
                there = {(one, two): many * len(orbit_of(table, one)) for one in least
                         for two, many in ways(table, one, deed)}
                again = {(two, one): many * len(orbit_of(table, one)) for one in least
                         for two, many in ways(table, one, back)}
                self.assertEqual(there, again)


class Refusals(Case):
    def test_bad_tables_come_ahead_of_all(self):
        for call, args in ((least_of, (None,)), (orbit_of, (None,)), (keeping, (None,)), (ways, (None, None)), (orbits, ())):
            self.refused(BadTable, "closed", call, BAD_TABLE, *args)
            self.refused(BadTable, None, call, None, *args)

    def test_no_stand(self):
        for call in (least_of, orbit_of, keeping):
            for thing in ODD_THINGS + [(0,), (0, 1, 2), [0, 1]]:
                self.refused(BadStand, None, call, SWAP, thing)
            self.refused(BadStand, 0, call, SWAP, (3, 3))
            self.refused(BadStand, 1, call, SWAP, (0, True))

    def test_of_two_stands_the_first(self):
        for thing in ODD_THINGS:
            self.refused(BadStand, None, ways, SWAP, thing, (3, 0))
            self.refused(BadStand, None, ways, SWAP, (0, 0), thing)
        self.refused(BadStand, 1, ways, SWAP, (0, 3), None)
        self.refused(BadStand, 0, ways, SWAP, (-1, 0), (0, 3))
        self.refused(BadStand, 1, ways, SWAP, (0, 0), (0, 3))


if __name__ == "__main__":
    unittest.main()
