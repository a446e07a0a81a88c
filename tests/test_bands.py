"""Points 53 and 55: bands of lots by which the unseen hand goes on for ever."""

import itertools
import random
import unittest

from tests.helpers import (
    CALM_ONE, ODD_THINGS, SWAP, TURN_THREE, Case, slow_faces, slow_felts, slow_free, slow_left, slow_orbits, slow_shapes,
    tuples_of)
from tests.test_plans import (
    ACROSS, ALIKE, BAD_TABLE, CALM_FOUR, ONE, PAIR, PAIRS, PAIRS_WISH, RING_FOUR, RING_SIX, SMALL, THREE, hands_of, within)
from unseenturn.bands import band_of, check_band, is_lost_by
from unseenturn.errors import BadLot, BadPaper, BadPattern, BadTable, BadWish, TooGreat
from unseenturn.lots import whole_lot
from unseenturn.making import mirrored, ring
from unseenturn.plans import depths
from unseenturn.wishes import alike, noughts

# One hand on a ring of four: each row by hand.
ROW_ONE = ((ONE,), (((0,), (0, 1)),))
ROW_PAIR = ((PAIR,), (((0,), (1, 3)),))
ROW_ACROSS = ((ACROSS,), (((0,), (2, 3)),))
ROW_THREE = ((THREE,), (((1,), (1, 3)),))
BAND = (ROW_ONE, ROW_PAIR, ROW_ACROSS, ROW_THREE)


def is_row(table, wish, hands, row, ahead, many):
    """Whether a thing is a row of a band by its form, by the words of the document."""
    if type(row) is not tuple or len(row) != 2 or repr(row).find("e") >= 0:
        return False
    lot, shown = row
    if lot not in tuples_of(slow_free(table, wish), 99) or lot <= ahead or type(shown) is not tuple:
        return False
    told = slow_shapes(table, hands)
    if len(shown) != len(told) or any(type(pair) is not tuple or len(pair) != 2 for pair in shown):
        return False
    for shape, (felt, numbers) in zip(told, shown):
        if felt not in slow_felts(table, lot, shape) or type(numbers) is not tuple:
            return False
        if len(numbers) != table[0] ** hands or any(number not in range(many) for number in numbers):
            return False
    return True


def slow_place(table, wish, hands, band):
    """The place that is due of what is no band; "good" of one."""
    ahead = ()
    for number, row in enumerate(band):
        if not is_row(table, wish, hands, row, ahead, len(band)):
            return number
        ahead = row[0]
    for number, (lot, shown) in enumerate(band):
        for shape, (felt, numbers) in zip(slow_shapes(table, hands), shown):
            for setting, goal in zip(slow_faces(table, hands), numbers):
                if not within(band[goal][0], slow_left(table, wish, lot, shape, felt, setting)):
                    return number
    return "good"


def slow_band(table, wish, hands):
    """The band of all lots without a plan that have no other such one within them, each choice the least."""
    lost = [lot for lot, due in depths(table, wish, hands) if due is None]
    least = [lot for lot in lost if not any(within(other, lot) and other != lot for other in lost)]

    def shown(lot, shape):
        for felt in slow_felts(table, lot, shape):
            lefts = [slow_left(table, wish, lot, shape, felt, setting) for setting in slow_faces(table, hands)]
            numbers = [[number for number, goal in enumerate(least) if within(goal, left)] for left in lefts]
            if all(numbers):
                return felt, tuple(told[0] for told in numbers)

    return tuple((lot, tuple(shown(lot, shape) for shape in slow_shapes(table, hands))) for lot in least)


def band_of_orbits(table, wish, hands, orbits):
    """A band of each of the orbits by itself, by the document's words; a search is no part of it."""
    def shown(orbit, shape):
        for felt in slow_felts(table, (orbit,), shape):
            lefts = [slow_left(table, wish, (orbit,), shape, felt, setting) for setting in slow_faces(table, hands)]
            numbers = [[number for number, goal in enumerate(orbits) if goal in left] for left in lefts]
            if all(numbers):
                return felt, tuple(told[0] for told in numbers)

    return tuple(((orbit,), tuple(shown(orbit, shape) for shape in slow_shapes(table, hands))) for orbit in orbits)


class Bands(Case):
    def test_by_hand(self):
        self.assertEqual(band_of(RING_FOUR, ALIKE, 1), BAND)
        self.assertIsNone(check_band(RING_FOUR, ALIKE, 1, BAND))
        self.assertIsNone(check_band(RING_FOUR, ALIKE, 1, ()))
        self.assertEqual(band_of(RING_FOUR, ALIKE, 2), ())
        self.assertEqual(band_of(TURN_THREE, alike(TURN_THREE), 1),
                         ((((0, 0, 1),), (((0,), (0, 1)),)), (((0, 1, 1),), (((1,), (0, 1)),))))
        self.assertEqual(band_of(CALM_ONE, ((0,),), 1), ())
        # Of 0011 one hand may as well show 1: what is put leaves 0011 and 0001, or 0011 and 0111.
        other = ((PAIR,), (((1,), (0, 1)),))
        self.assertIsNone(check_band(RING_FOUR, ALIKE, 1, (ROW_ONE, other, ROW_ACROSS, ROW_THREE)))

    def test_lost_by_hand(self):
        for lot in tuples_of([ONE, PAIR, ACROSS, THREE], 4):
            self.assertIs(is_lost_by(RING_FOUR, ALIKE, 1, BAND, lot), lot != ())
            self.assertIs(is_lost_by(RING_FOUR, ALIKE, 1, (), lot), False)
        wide = ((ONE, PAIR, ACROSS, THREE), (((0,), (0, 0)),))
        self.refused(BadPaper, 0, check_band, RING_FOUR, ALIKE, 1, (wide,))

    def test_a_lot_of_two_orbits_is_lost_as_a_whole(self):
        band = band_of(PAIRS, PAIRS_WISH, 1)
        both = ((0, 0, 1), (1, 2, 2))
        self.assertEqual([lot for lot, _ in band], [both, ((0, 0, 2),), ((0, 1, 2),), ((0, 2, 2),)])
        for lot in (both, ((0, 0, 2),), ((0, 0, 1), (0, 2, 2))):
            self.assertIs(is_lost_by(PAIRS, PAIRS_WISH, 1, band, lot), True)
        for orbit in both:
            self.assertIs(is_lost_by(PAIRS, PAIRS_WISH, 1, band, (orbit,)), False)

    def test_band_of_against_the_words(self):
        for table, wish in SMALL:
            for hands in hands_of(table):
                band = band_of(table, wish, hands)
                self.assertEqual(band, slow_band(table, wish, hands))
                self.assertIsNone(check_band(table, wish, hands, band))
                self.assertEqual(band_of(table, wish, hands), band)

    def test_each_lot_has_a_plan_or_is_lost(self):
        some = 0
        for table, wish in SMALL:
            for hands in hands_of(table):
                band = band_of(table, wish, hands)
                found = depths(table, wish, hands)
                self.assertEqual(band == (), all(due is not None for _, due in found))
                for lot, due in found[:10] + found[-30:]:
                    self.assertIs(is_lost_by(table, wish, hands, band, lot), due is None)
                some += any(len(lot) > 1 for lot, _ in band)
        self.assertGreater(some, 0)

    def test_rings_of_two_faces(self):
        # One hand fewer than are needed: each orbit by itself in which some class isn't all one face.
        for many, prime in ((2, 2), (3, 3), (4, 2), (5, 5), (6, 3)):
            table = (2, ring(many))
            hands = many - many // prime - 1
            if hands < 1:
                continue
            apart = many // prime
            orbits = [orbit for orbit in slow_orbits(table)
                      if any(len({orbit[at] for at in range(first, many, apart)}) > 1 for first in range(apart))]
            band = band_of_orbits(table, alike(table), hands, orbits)
            self.assertIsNone(check_band(table, alike(table), hands, band))
            self.assertTrue(is_lost_by(table, alike(table), hands, band, whole_lot(table, alike(table))))
        self.barred(TooGreat, band_of, RING_SIX, alike(RING_SIX), 3)

    def test_what_is_told_is_a_tuple(self):
        for told in (band_of(RING_FOUR, ALIKE, 1), band_of(RING_FOUR, ALIKE, 4)):
            self.assertIs(type(told), tuple)

    def test_by_names(self):
        self.assertEqual(band_of(hands=1, wish=ALIKE, table=RING_FOUR), BAND)
        self.assertIsNone(check_band(band=BAND, hands=1, wish=ALIKE, table=RING_FOUR))
        self.assertIs(is_lost_by(lot=(ONE,), band=BAND, hands=1, wish=ALIKE, table=RING_FOUR), True)


class Places(Case):
    def bad(self, place, band, hands=1):
        self.refused(BadPaper, place, check_band, RING_FOUR, ALIKE, hands, band)
        self.refused(BadPaper, place, is_lost_by, RING_FOUR, ALIKE, hands, band, None)

    def test_no_bands(self):
        for thing in ODD_THINGS + [list(BAND), {ROW_ONE: 1}]:
            self.bad(0 if isinstance(thing, tuple) else None, thing)
        for thing in ODD_THINGS + [list(ROW_ONE), ROW_ONE[:1], ROW_ONE + (1,), ()]:
            self.bad(0, (thing,) + BAND[1:])
            self.bad(2, BAND[:2] + (thing,) + BAND[3:])
            self.bad(4, BAND + (thing,))

    def test_lots(self):
        for lot in ODD_THINGS + [(), [PAIR], ((0, 0, 0, 0),), ((1, 1, 0, 0),), (PAIR, PAIR), (ACROSS, PAIR), PAIR,
                                 ((False, False, True, True),), (PAIR, None), ((0, 0, 1, 2),)]:
            self.bad(1, (ROW_ONE, (lot,) + ROW_PAIR[1:], ROW_ACROSS, ROW_THREE))
        self.bad(1, (ROW_PAIR, ROW_ONE, ROW_ACROSS, ROW_THREE))
        self.bad(1, (ROW_ONE, ROW_ONE, ROW_ACROSS, ROW_THREE))
        self.bad(3, (ROW_ONE, ROW_PAIR, ROW_ACROSS, ROW_ACROSS))
        self.bad(3, (ROW_ONE, ROW_PAIR, ROW_THREE, ROW_ACROSS))

    def test_shown(self):
        pair = ROW_PAIR[1][0]
        wrong = [(), (pair, pair), [pair], None, pair, (list(pair),), (pair[:1],), (pair + (1,),), (((0, 0), (1, 3)),),
                 (((2,), (1, 3)),), (((False,), (1, 3)),), (((), (1, 3)),), (([0], (1, 3)),), ((None, (1, 3)),),
                 ((0, (1, 3)),), (((0,), (1,)),), (((0,), (1, 3, 3)),), (((0,), [1, 3]),), (((0,), None),), (((0,), (1, 4)),),
                 (((0,), (-1, 3)),), (((0,), (1, -1)),), (((0,), (True, 3)),), (((0,), (1, "3")),), (((0,), (1, 3.0)),), (((0,), (1, None)),),
                 (((0,), ()),), (((0,), (1, 10 ** 30)),), (None,), (7,), 7]
        for shown in wrong:
            self.bad(1, (ROW_ONE, ((PAIR,), shown), ROW_ACROSS, ROW_THREE))
        # Fewer rows: the NUMBERS that tell the last one aren't below how many there are.
        self.bad(1, BAND[:3])
        self.bad(0, BAND[1:3])
        # What can't be felt is no row, by its form: of one that is all but alike, three felt, just one has 0.
        table = (2, ring(3))
        band = band_of(table, alike(table), 1)
        both = ((((0, 0, 1),), (((0, 0), (0, 0, 0, 0)),)),)
        self.refused(BadPaper, 0, check_band, table, alike(table), 2, both)
        self.refused(BadPaper, 0, check_band, table, alike(table), 2, ((((0, 0, 1),), (((1, 1), (0, 0, 0, 0)),)),))
        self.assertIsNone(check_band(table, alike(table), 1, band))

    def test_not_within(self):
        self.bad(0, (((ONE,), (((0,), (1, 1)),)),) + BAND[1:])
        self.bad(0, (((ONE,), (((1,), (0, 1)),)),) + BAND[1:])
        self.bad(3, BAND[:3] + (((THREE,), (((1,), (1, 1)),)),))
        self.bad(2, BAND[:2] + (((ACROSS,), (((0,), (3, 3)),)), ROW_THREE))
        # A form that's wrong is due ahead of what isn't WITHIN.
        self.bad(3, (((ONE,), (((0,), (1, 1)),)),) + BAND[1:3] + (((THREE,), (((1,), (1, 4)),)),))

    def test_hands(self):
        for hands in (2, 3, 4):
            self.bad(0, BAND, hands)

    def test_altered_against_the_words(self):
        chance = random.Random(4)
        good = 0
        for table, wish in SMALL:
            for hands in list(hands_of(table))[:2]:
                band = band_of(table, wish, hands)
                for _ in range(30 if band else 0):
                    told = self.altered(chance, table, wish, hands, band)
                    place = slow_place(table, wish, hands, told)
                    if place == "good":
                        self.assertIsNone(check_band(table, wish, hands, told))
                        good += 1
                    else:
                        self.refused(BadPaper, place, check_band, table, wish, hands, told)
        self.assertGreater(good, 20)

    def altered(self, chance, table, wish, hands, band):
        """A band in which something is left out, put in twice, turned about or another one."""
        rows = [[lot, [list(pair) for pair in shown]] for lot, shown in band]
        at = chance.randrange(len(rows))
        kind = chance.randrange(7)
        pair = chance.choice(rows[at][1])
        if kind == 0:
            del rows[at]
        elif kind == 1:
            rows.insert(at, rows[at])
        elif kind == 2 and len(rows) > 1:
            rows[at], rows[at - 1] = rows[at - 1], rows[at]
        elif kind == 3:
            pair[0] = chance.choice(slow_faces(table, hands))
        elif kind == 4:
            rows[at][0] = chance.choice(tuples_of(slow_free(table, wish), 3))
        elif kind == 5:
            rows[at][1] = rows[at][1] * 2
        else:
            numbers = list(pair[1])
            numbers[chance.randrange(len(numbers))] = chance.randrange(len(rows) + 1)
            pair[1] = tuple(numbers)
        return tuple((lot, tuple(tuple(pair) for pair in shown)) for lot, shown in rows)


class Refusals(Case):
    def test_order(self):
        nine = tuple(slow_orbits(CALM_FOUR)[9:])
        good = {"table": CALM_FOUR, "wish": nine, "hands": 2, "band": (), "lot": (ONE,)}
        bad = {"table": (BAD_TABLE, BadTable, "closed"), "wish": ((PAIR, ONE), BadWish, 1), "hands": (5, BadPattern, None),
               "band": ([], BadPaper, None), "lot": (((1, 1, 1, 1),), BadLot, 0)}
        for call, names in ((check_band, ["table", "wish", "hands", "band"]), (band_of, ["table", "wish", "hands"]),
                            (is_lost_by, ["table", "wish", "hands", "band", "lot"])):
            for choice in itertools.product((0, 1), repeat=len(names)):
                more = {name: bad[name][0] if chosen else good[name] for name, chosen in zip(names, choice)}
                due = next((bad[name][1:] for name, chosen in zip(names, choice) if chosen), None)
                if due:
                    self.refused(due[0], due[1], call, **more)
                elif call == band_of:
                    self.barred(TooGreat, call, **more)
                else:
                    self.assertIs(call(**more), None if call == check_band else False)

    def test_anything(self):
        for thing in ODD_THINGS:
            number = 0 if isinstance(thing, tuple) else None
            for call, args in ((check_band, (1, None)), (is_lost_by, (1, None, None)), (band_of, (1,))):
                self.refused(BadTable, None, call, thing, None, *args)
                self.refused(BadWish, number, call, RING_FOUR, thing, *args)
            if type(thing) is not int or not 1 <= thing <= 4:
                for call, args in ((check_band, (None,)), (is_lost_by, (None, None)), (band_of, ())):
                    self.refused(BadPattern, None, call, RING_FOUR, ALIKE, thing, *args)
            self.refused(BadLot, number, is_lost_by, RING_FOUR, ALIKE, 1, BAND, thing)

    def test_too_great(self):
        orbits = slow_orbits(CALM_FOUR)
        self.barred(TooGreat, band_of, CALM_FOUR, tuple(orbits[9:]), 1)
        self.assertIs(type(band_of(CALM_FOUR, tuple(orbits[8:]), 1)), tuple)
        self.barred(TooGreat, band_of, (2, ring(7)), tuple(slow_orbits((2, ring(7)))[1:]), 7)
        self.assertEqual(band_of((2, ring(7)), tuple(slow_orbits((2, ring(7)))[1:]), 6), ())

    def test_lookers_have_no_bound(self):
        table = (2, mirrored(8))
        free = slow_free(table, noughts(table))
        felt = (1,) * 8
        row = ((felt,), ((felt, (0,) * 256),))
        self.refused(BadPaper, 0, check_band, table, noughts(table), 8, (row,))
        self.assertGreater(len(free), 8)
        one = (free[0],)
        alone = tuple(((0,), (0, 0)) for _ in slow_shapes(table, 1))
        self.refused(BadPaper, 0, check_band, table, noughts(table), 1, ((one, alone),))
        self.assertIs(is_lost_by(table, noughts(table), 1, (), tuple(free)), False)
        self.assertIs(is_lost_by(SWAP, noughts(SWAP), 1, (), ()), False)


if __name__ == "__main__":
    unittest.main()
