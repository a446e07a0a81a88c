"""Points 42 to 44: the built row, what a row misses, how a stand is kept outside."""

import itertools
import unittest

from tests.helpers import (
    CALM_ONE, ODD_THINGS, SMALL_TABLES, SWAP, TURN_THREE, Case, all_orders, closure, slow_least, slow_minus, slow_orbits,
    slow_plus, slow_stands, slow_turned, slow_wished)
from tests.test_stairs import even_wishes, slow_levels
from unseenturn.built import built_row, keeping_out, lost, missed
from unseenturn.errors import BadRow, BadStand, BadTable, BadWish, Inside, NotEven
from unseenturn.rows import fewest, is_sure, latest, least_row
from unseenturn.stairs import step_of, steps
from unseenturn.wishes import alike, noughts, wish_by

BAD_TABLE = (2, ((1, 0),))
FOUR = (4, ((0,),))
RING_FOUR = (2, closure([(1, 2, 3, 0)], 4))
UNEVEN = ((0, 1),)
MORE_TABLES = SMALL_TABLES + [(4, closure([(1, 2, 3, 0)], 4)), (2, all_orders(5)), (6, ((0, 1), (1, 0))), (3, all_orders(3))]


def slow_built(table, wish):
    """The built row by the words of point 42."""
    levels, row = slow_levels(table, wish), ()
    for lower, upper in zip(levels, levels[1:]):
        classes = sorted({tuple(sorted(slow_plus(table, one, other) for other in lower)) for one in upper})
        leasts = [members[0] for members in classes]
        longer = row
        for ahead, least in zip(leasts, leasts[1:]):
            longer += (slow_minus(table, least, ahead),) + row
        row = longer
    return row


def outside(table, wish):
    """All stands that are outside, by the words of point 40."""
    top, one = slow_levels(table, wish)[-1], min(slow_wished(table, wish))
    return [stand for stand in slow_stands(table) if slow_minus(table, stand, one) not in top]


def rings_untouched(table, wish, stand, row):
    told = slow_wished(table, wish)
    return stand in told or any(
        (stand := slow_plus(table, stand, deed)) in told for deed in row)


class Built(Case):
    def test_by_hand(self):
        self.assertEqual(built_row(FOUR, ((0,),)), ((1,), (1,), (1,)))
        self.assertEqual(built_row(FOUR, ((1,), (3,))), ((1,),))
        self.assertEqual(built_row(CALM_ONE, ((0,), (1,))), ())
        self.assertEqual(built_row(SWAP, noughts(SWAP)), ((1, 1), (1, 1)))
        self.assertEqual(built_row(TURN_THREE, noughts(TURN_THREE)), ((1, 1, 1),))
        self.assertEqual(built_row(TURN_THREE, alike(TURN_THREE)), ())
        self.assertEqual(built_row(RING_FOUR, alike(RING_FOUR)),
                         ((0, 1, 0, 1), (0, 0, 1, 1), (0, 1, 0, 1), (0, 0, 0, 1), (0, 1, 0, 1), (0, 0, 1, 1), (0, 1, 0, 1)))
        # 00, 11, 22, 33 first; then 02 with these, then 01 with all of these.
        table = (4, ((0, 1), (1, 0)))
        lower = ((1, 1), (1, 1), (1, 1))
        middle = lower + ((0, 2),) + lower
        self.assertEqual(built_row(table, noughts(table)), middle + ((0, 1),) + middle)

    def test_where_nothing_is_turned(self):
        table = (3, ((0, 1),))
        self.assertEqual(built_row(table, noughts(table)),
                         ((0, 1), (0, 1), (1, 1), (0, 1), (0, 1), (1, 1), (0, 1), (0, 1)))

    def test_against_the_words(self):
        for table in MORE_TABLES:
            for wish in even_wishes(table)[::2]:
                row = built_row(table, wish)
                self.assertEqual(row, slow_built(table, wish))
                told = steps(table, wish)
                self.assertEqual((len(row) + 1) * told[0], told[-1])

    def test_sure_for_all_that_are_not_outside(self):
        for table in MORE_TABLES:
            for wish in even_wishes(table)[::3]:
                row, far = built_row(table, wish), set(outside(table, wish))
                lot = tuple(orbit for orbit in slow_orbits(table) if orbit not in far and orbit not in wish)
                self.assertIs(is_sure(table, wish, row, lot=lot), True)
                free = [orbit for orbit in slow_orbits(table) if orbit not in wish]
                if len(free) <= 12 and len(slow_orbits(table)) <= 40:
                    self.assertEqual(fewest(table, wish, lot=lot), len(row))
                told, many = latest(table, wish, row, lot=lot), steps(table, wish)
                for step in range(1, len(many)):
                    rung = [told[orbit] for orbit in lot if step_of(table, wish, orbit) == step]
                    self.assertEqual(max(rung), many[step] // many[0] - 1)

    def test_not_sooner_if_nobody_turns(self):
        for table in (RING_FOUR, SWAP, (4, ((0, 1), (1, 0))), (3, ((0, 1),))):
            for wish in (noughts(table), alike(table)):
                row, many = built_row(table, wish), steps(table, wish)
                for step in range(1, len(many)):
                    due = many[step] // many[0] - 1
                    stands = [stand for stand in slow_stands(table) if step_of(table, wish, stand) == step]
                    self.assertTrue(all(rings_untouched(table, wish, stand, row[:due]) for stand in stands))
                    self.assertFalse(all(rings_untouched(table, wish, stand, row[:due - 1]) for stand in stands))

    def test_great_tables(self):
        table = (3, (tuple(range(6)),))
        row = built_row(table, noughts(table))
        self.assertEqual(len(row), 728)
        self.assertIsNone(missed(table, noughts(table), row))
        self.assertEqual(missed(table, noughts(table), row[:-1]), (1,) * 6)
        table = (2, closure([(1, 2, 3, 4, 5, 6, 7, 0)], 8))
        row = built_row(table, noughts(table))
        self.assertEqual(len(row), 255)
        self.assertIs(is_sure(table, noughts(table), row), True)
        self.assertIs(is_sure(table, noughts(table), row[:-1]), False)


class Missed(Case):
    def test_by_hand(self):
        self.assertEqual(missed(FOUR, ((0,),), ()), (1,))
        self.assertEqual(missed(FOUR, ((0,),), ((1,), (1,))), (1,))
        self.assertEqual(missed(FOUR, ((0,),), ((3,), (3,))), (3,))
        self.assertEqual(missed(FOUR, ((0,),), ((2,), (2,), (2,), (2,))), (1,))
        self.assertIsNone(missed(FOUR, ((0,),), ((1,), (1,), (1,))))
        self.assertIsNone(missed(FOUR, ((0,),), ((3,), (1,), (2,), (0,), (3,), (1,), (2,), (1,))))
        self.assertIsNone(missed(TURN_THREE, alike(TURN_THREE), ()))
        self.assertEqual(missed(TURN_THREE, noughts(TURN_THREE), ((0, 0, 1),)), (1, 1, 1))
        self.assertIsNone(missed(CALM_ONE, ((0,), (1,)), ()))

    def test_against_all_stands(self):
        for table in (FOUR, CALM_ONE, SWAP, TURN_THREE, (2, ((0, 1),)), (3, ((0, 1),))):
            for wish in even_wishes(table):
                inside = [stand for stand in slow_stands(table) if stand not in outside(table, wish)]
                deeds = slow_stands(table)[:5] + slow_stands(table)[-1:]
                rows = [row for many in range(4) for row in itertools.product(deeds, repeat=many)][::3]
                for row in rows + [built_row(table, wish), built_row(table, wish)[1:]]:
                    due = [stand for stand in inside if not rings_untouched(table, wish, stand, row)]
                    self.assertEqual(missed(table, wish, row), due[0] if due else None)

    def test_shorter_rows_miss_some(self):
        for table in MORE_TABLES[:9]:
            for wish in even_wishes(table):
                row = built_row(table, wish)
                self.assertIsNone(missed(table, wish, row))
                for out in range(len(row)):
                    self.assertIsNotNone(missed(table, wish, row[:out] + row[out + 1:]))

    def test_shortest_rows_miss_none(self):
        for wish in (noughts(FOUR), alike(FOUR)):
            self.assertIsNone(missed(FOUR, wish, least_row(FOUR, wish)))


class KeptOutside(Case):
    def test_by_hand(self):
        calm, one, two = TURN_THREE[1]
        wish = alike(TURN_THREE)
        # 001 and 001 are 000; behind one turning 100 and 001 are 101.
        self.assertEqual(keeping_out(TURN_THREE, wish, (0, 0, 1), (0, 0, 1)), one)
        self.assertEqual(keeping_out(TURN_THREE, wish, (0, 0, 1), (0, 0, 0)), calm)
        self.assertEqual(keeping_out(TURN_THREE, wish, (0, 1, 1), (0, 1, 1)), one)
        self.assertEqual(lost(TURN_THREE, wish, (), (0, 0, 1)), ())
        # 001, 100 + 001 = 101, 101 + 100 = 001, 100 + 110 = 010.
        row = ((0, 0, 1), (1, 0, 0), (0, 0, 1))
        self.assertEqual(lost(TURN_THREE, wish, row, (0, 0, 1)), (one, calm, one))
        self.assertEqual(keeping_out(SWAP, noughts(SWAP), (0, 1), (1, 0)), (1, 0))
        self.assertEqual(keeping_out(SWAP, noughts(SWAP), (0, 1), (0, 0)), (0, 1))

    def test_against_all_turnings(self):
        for table in MORE_TABLES:
            for wish in even_wishes(table)[::4] + [alike(table)]:
                far = outside(table, wish)
                for stand in far[:6]:
                    for deed in slow_stands(table)[::3]:
                        due = [turning for turning in table[1]
                               if slow_plus(table, slow_turned(turning, stand), deed) in far]
                        self.assertEqual(keeping_out(table, wish, stand, deed), due[0])

    def test_lost_for_ever(self):
        for table in MORE_TABLES:
            wish = alike(table)
            far = outside(table, wish)
            deeds = slow_stands(table)
            row = tuple(deeds[1:6]) + tuple(deeds[-4:]) + tuple(deeds[::3])[:20]
            for stand in far[:5]:
                turns = lost(table, wish, row, stand)
                self.assertEqual(len(turns), len(row))
                for turning, deed in zip(turns, row):
                    self.assertEqual(turning, keeping_out(table, wish, stand, deed))
                    stand = slow_plus(table, slow_turned(turning, stand), deed)
                    self.assertIn(stand, far)
                    self.assertNotIn(slow_least(table, stand), wish)

    def test_inside(self):
        for table in SMALL_TABLES:
            for wish in even_wishes(table)[::3]:
                levels, one = slow_levels(table, wish), min(slow_wished(table, wish))
                for stand in slow_stands(table)[::2]:
                    away = slow_minus(table, stand, one)
                    due = next((step for step, level in enumerate(levels) if away in level), None)
                    if due is not None:
                        self.refused(Inside, due, keeping_out, table, wish, stand, (0,) * len(stand))
                        self.refused(Inside, due, lost, table, wish, (), stand)
                        self.refused(Inside, due, lost, table, wish, ((0,) * len(stand),), stand)

    def test_by_names(self):
        one = TURN_THREE[1][1]
        wish = alike(TURN_THREE)
        self.assertEqual(keeping_out(table=TURN_THREE, wish=wish, stand=(0, 0, 1), deed=(0, 0, 1)), one)
        self.assertEqual(lost(table=TURN_THREE, wish=wish, row=((0, 0, 1),), stand=(0, 0, 1)), (one,))
        self.assertEqual(built_row(table=FOUR, wish=((0,),)), ((1,), (1,), (1,)))
        self.assertEqual(missed(table=FOUR, wish=((0,),), row=()), (1,))


class Refusals(Case):
    CALLS = ((built_row, ()), (missed, (None,)), (keeping_out, (None, None)), (lost, (None, None)))

    def test_bad_tables_come_ahead_of_all(self):
        for call, args in self.CALLS:
            self.refused(BadTable, "closed", call, BAD_TABLE, None, *args)
            self.refused(BadTable, None, call, None, None, *args)

    def test_no_wish_comes_next_then_one_that_is_not_even(self):
        for call, args in self.CALLS:
            for wish, number in ((None, None), ((), None), (((1, 0),), 0), (((0, 1), (0, 1)), 1)):
                self.refused(BadWish, number, call, SWAP, wish, *args)
            self.barred(NotEven, call, SWAP, UNEVEN, *args)

    def test_no_row(self):
        for row, number in ((None, None), ([], None), (((0, 0), (0, 3)), 1), ((0, 0), 0)):
            self.refused(BadRow, number, missed, SWAP, noughts(SWAP), row)
            self.refused(BadRow, number, lost, SWAP, noughts(SWAP), row, None)

    def test_no_stand(self):
        for thing in ODD_THINGS + [(0,), [0, 0]]:
            self.refused(BadStand, None, keeping_out, SWAP, noughts(SWAP), thing, (0, 3))
            self.refused(BadStand, None, keeping_out, SWAP, noughts(SWAP), (0, 1), thing)
            self.refused(BadStand, None, keeping_out, SWAP, noughts(SWAP), (0, 0), thing)
            self.refused(BadStand, None, lost, SWAP, noughts(SWAP), (), thing)
        self.refused(BadStand, 1, keeping_out, SWAP, noughts(SWAP), (0, 3), None)
        self.refused(BadStand, 0, keeping_out, SWAP, noughts(SWAP), (0, 0), (3, 3))
        self.refused(BadStand, 1, lost, SWAP, noughts(SWAP), ((0, 0),), (0, True))

    def test_all_that_are_wished_are_inside(self):
        table = (2, ((0, 1), (1, 0)))
        self.refused(Inside, 0, keeping_out, table, wish_by(table, tuple(slow_stands(table))), (0, 1), (0, 0))


if __name__ == "__main__":
    unittest.main()
