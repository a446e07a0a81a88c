"""Points 30 to 33: lets and sorts, a row's lots, escapes, a row told back, the shortest sure rows."""

import itertools
import math
import unittest

from tests.helpers import (
    CALM_ONE, ODD_THINGS, SMALL_TABLES, SWAP, TURN_THREE, Case, closure, slow_behind, slow_free, slow_least, slow_minus,
    slow_orbit, slow_orbits, slow_plus, slow_stands, slow_turned, slow_wished, tuples_of)
from unseenturn.errors import BadLot, BadRow, BadRun, BadStand, BadTable, BadWish, Never, NotSure, TooGreat
from unseenturn.rows import (
    count_least, escape, escape_back, fewest, is_escape, is_sure, latest, least_row, lots_of, sorts, told_back)
from unseenturn.tables import walked
from unseenturn.wishes import alike, even_by, is_even, noughts, wish_by

BAD_TABLE = (2, ((1, 0),))
FOUR = (4, ((0,),))
RING_FOUR = (2, closure([(1, 2, 3, 0)], 4))
CROSS = (2, closure([(1, 0, 3, 2)], 4))
FORTY_TWO = (2, closure([(1, 0, 3, 2, 5, 4, 6), (3, 1, 2, 0, 4, 5, 6)], 7))
SEVEN_DEEDS = ((0, 1, 0, 1), (0, 0, 1, 1), (0, 1, 0, 1), (0, 0, 0, 1), (0, 1, 0, 1), (0, 0, 1, 1), (0, 1, 0, 1))
TINY_TABLES = [FOUR, CALM_ONE, SWAP, TURN_THREE, (2, ((0, 1),)), (4, ((0, 1), (1, 0)))]


def few_wishes(table):
    orbits = slow_orbits(table)
    return [(orbits[0],), (orbits[-1],), alike(table), tuple(orbits[:2]), tuple(orbits[1:3]), tuple(orbits[1:])]


def few_rows(table):
    deeds = slow_stands(table)
    return [(), (deeds[1],), (deeds[-1],), (deeds[-1], deeds[1]), (deeds[1], deeds[1]), (deeds[1], deeds[-2], deeds[1]),
            (deeds[0], deeds[-1], deeds[-1])]


def few_lots(table, wish):
    free = slow_free(table, wish)
    return [(), tuple(free[:1]), tuple(free[-1:]), tuple(free[:2]), tuple(free)]


def all_runs(table, row, lot):
    beginnings = sorted(slow_wished(table, lot))
    return itertools.product(beginnings, itertools.product(table[1], repeat=len(row)))


def slow_walk(table, run, row):
    behind = [run[0]]
    for turning, deed in zip(run[1], row):
        behind.append(slow_plus(table, slow_turned(turning, behind[-1]), deed))
    return behind


def rings_at(table, wish, run, row):
    """Behind how many deeds the bell rings, None where it doesn't."""
    told = slow_wished(table, wish)
    return next((many for many, stand in enumerate(slow_walk(table, run, row)) if stand in told), None)


def each_case(tables=tuple(TINY_TABLES)):
    for table in tables:
        for wish in few_wishes(table):
            for row in few_rows(table):
                for lot in few_lots(table, wish):
                    yield table, wish, row, lot


class Sorts(Case):
    def test_by_hand(self):
        self.assertEqual(sorts(TURN_THREE), ((0, 0, 0), (0, 0, 1), (0, 1, 1), (1, 1, 1)))
        self.assertEqual(sorts(TURN_THREE, lets=()), ())
        self.assertEqual(sorts(TURN_THREE, lets=((0, 1, 0), (1, 0, 0), (1, 1, 0))), ((0, 1, 0), (1, 1, 0)))
        self.assertEqual(sorts(TURN_THREE, lets=((0, 1, 1), (1, 0, 0), (1, 1, 0), (1, 1, 1))),
                         ((0, 1, 1), (1, 0, 0), (1, 1, 1)))

    def test_against_all(self):
        for table in TINY_TABLES:
            self.assertEqual(sorts(table), tuple(slow_orbits(table)))
            self.assertEqual(sorts(table, lets=None), sorts(table, lets=tuple(slow_stands(table))))
            for lets in tuples_of(slow_stands(table)[:9], 4):
                told = {min(deed for deed in lets if deed in slow_orbit(table, one)) for one in lets}
                self.assertEqual(sorts(table=table, lets=lets), tuple(sorted(told)))

    def test_no_lets(self):
        calls = [sorts] + [lambda table, lets, call=call: call(table, alike(table), lets=lets)
                           for call in (fewest, least_row, count_least)]
        for call in calls:
            for thing in [True, False, 0, "", [], [(0, 0)], {}, {(0, 0)}, range(1), 1.0, object()]:
                self.refused(BadStand, None, call, SWAP, lets=thing)
            for thing in ODD_THINGS + [(0,), (0, 0, 0), [0, 0], (0, 3), (True, 0)]:
                self.refused(BadStand, 0, call, SWAP, lets=(thing,))
                self.refused(BadStand, 2, call, SWAP, lets=((0, 0), (1, 0), thing, thing))
            self.refused(BadStand, 1, call, SWAP, lets=((0, 1), (0, 1)))
            self.refused(BadStand, 1, call, SWAP, lets=((0, 1), (0, 0), None))
            self.refused(BadStand, 2, call, SWAP, lets=((0, 1), (1, 0), (0, 2)))


class LotsOfRows(Case):
    def test_by_hand(self):
        self.assertEqual(lots_of(FOUR, ((0,),), ((1,), (1,), (1,))), (((1,), (2,), (3,)), ((2,), (3,)), ((3,),), ()))
        self.assertEqual(lots_of(FOUR, ((0,),), ((1,), (2,)), lot=((1,), (3,))), (((1,), (3,)), ((2,),), ()))
        self.assertEqual(lots_of(FOUR, ((0,),), ((1,), (2,)), lot=((1,), (2,))), (((1,), (2,)), ((2,), (3,)), ((1,),)))
        self.assertEqual(lots_of(FOUR, ((0,),), ()), (((1,), (2,), (3,)),))
        self.assertEqual(lots_of(FOUR, ((0,),), ((1,),), lot=()), ((), ()))
        free = [(0, 0, 0, 1), (0, 0, 1, 1), (0, 1, 0, 1), (0, 1, 1, 1)]
        self.assertEqual(lots_of(RING_FOUR, alike(RING_FOUR), SEVEN_DEEDS[:3]),
                         (tuple(free), (free[0], free[1], free[3]), (free[0], free[2], free[3]), (free[0], free[3])))

    def test_sure_by_hand(self):
        self.assertIs(is_sure(RING_FOUR, alike(RING_FOUR), SEVEN_DEEDS), True)
        self.assertIs(is_sure(RING_FOUR, alike(RING_FOUR), SEVEN_DEEDS[:-1]), False)
        self.assertIs(is_sure(RING_FOUR, alike(RING_FOUR), SEVEN_DEEDS[1:]), False)
        self.assertIs(is_sure(RING_FOUR, alike(RING_FOUR), SEVEN_DEEDS[:3], lot=((0, 0, 1, 1), (0, 1, 0, 1))), True)
        self.assertIs(is_sure(RING_FOUR, alike(RING_FOUR), (), lot=()), True)
        self.assertIs(is_sure(RING_FOUR, alike(RING_FOUR), ()), False)
        self.assertIs(is_sure(CALM_ONE, ((0,), (1,)), ()), True)

    def test_against_deed_by_deed(self):
        for table, wish, row, lot in each_case():
            told = lots_of(table, wish, row, lot=lot)
            self.assertIs(type(told), tuple)
            self.assertEqual(len(told), len(row) + 1)
            self.assertEqual(told[0], lot)
            for at, deed in enumerate(row):
                self.assertEqual(told[at + 1], slow_behind(table, wish, told[at], deed))
            self.assertEqual(lots_of(table, wish, row), lots_of(table, wish, row, lot=tuple(slow_free(table, wish))))

    def test_sure_and_latest_against_all_runs(self):
        for table, wish, row, lot in each_case():
            rung = {}
            for run in all_runs(table, row, lot):
                rung.setdefault(slow_least(table, run[0]), []).append(rings_at(table, wish, run, row))
            sure = all(None not in numbers for numbers in rung.values())
            self.assertIs(is_sure(table, wish, row, lot=lot), sure)
            if sure:
                told = latest(table, wish, row, lot=lot)
                self.assertEqual(list(told.items()), [(orbit, max(rung[orbit])) for orbit in sorted(rung)])
            else:
                self.barred(NotSure, latest, table, wish, row, lot=lot)

    def test_latest_by_hand(self):
        self.assertEqual(latest(RING_FOUR, alike(RING_FOUR), SEVEN_DEEDS),
                         {(0, 0, 0, 1): 7, (0, 0, 1, 1): 3, (0, 1, 0, 1): 1, (0, 1, 1, 1): 7})
        self.assertEqual(latest(FOUR, ((0,),), ((1,), (1,), (1,), (1,))), {(1,): 3, (2,): 2, (3,): 1})
        self.assertEqual(latest(FOUR, ((0,),), ((1,), (2,)), lot=((1,), (3,))), {(1,): 2, (3,): 1})
        self.assertEqual(latest(FOUR, ((0,),), ((1,),), lot=()), {})
        self.assertEqual(latest(FOUR, ((0,),), (), lot=()), {})
        self.barred(NotSure, latest, FOUR, ((0,),), ())
        self.barred(NotSure, latest, FOUR, ((0,),), ((1,), (2,)))

    def test_other_deeds_of_an_orbit(self):
        for row in itertools.product(*[sorted(slow_orbit(RING_FOUR, deed))[-2:] for deed in SEVEN_DEEDS]):
            self.assertIs(is_sure(RING_FOUR, alike(RING_FOUR), row), True)

    def test_long_rows_of_many_orbits(self):
        table = (3, ((0, 1, 2, 3, 4),))
        row = ((0, 0, 0, 0, 1), (0, 0, 0, 0, 1), (0, 0, 0, 1, 0)) * 80
        self.assertEqual(len(lots_of(table, noughts(table), row)[-1]), 242 - 8)

    def test_what_is_told_is_the_asker_s_own(self):
        told = latest(FOUR, ((0,),), ((1,), (1,), (1,)))
        told[(1,)] = None
        told[None] = 3
        self.assertEqual(latest(FOUR, ((0,),), ((1,), (1,), (1,))), {(1,): 3, (2,): 2, (3,): 1})


class Escapes(Case):
    def test_escape_against_all_runs(self):
        for table, wish, row, lot in each_case():
            told = escape(table, wish, row, lot=lot)
            if is_sure(table, wish, row, lot=lot):
                self.assertIsNone(told)
            else:
                self.assertIs(is_escape(table, wish, row, told, lot=lot), True)
                self.assertIn(slow_least(table, told[0]), lot)
                behind = walked(table, told, row)
                self.assertFalse(set(behind) & slow_wished(table, wish))
                self.assertEqual(escape(table, wish, row, lot=lot), told)
            self.assertEqual(escape(table, wish, row), escape(table, wish, row, lot=tuple(slow_free(table, wish))))

    def test_escapes_of_all_but_sure_rows(self):
        wish = alike(RING_FOUR)
        for many in range(7):
            told = escape(RING_FOUR, wish, SEVEN_DEEDS[:many])
            self.assertIs(is_escape(RING_FOUR, wish, SEVEN_DEEDS[:many], told), True)
            self.assertFalse(set(walked(RING_FOUR, told, SEVEN_DEEDS[:many])) & {(0,) * 4, (1,) * 4})
        self.assertIsNone(escape(RING_FOUR, wish, SEVEN_DEEDS))
        self.assertIsNone(escape(RING_FOUR, wish, (), lot=()))

    def test_is_escape_against_all_runs(self):
        for table, wish, row, lot in each_case((SWAP, TURN_THREE, CALM_ONE)):
            for run in all_runs(table, row, tuple(slow_orbits(table))):
                goes = slow_least(table, run[0]) in lot and rings_at(table, wish, run, row) is None
                self.assertIs(is_escape(table, wish, row, run, lot=lot), goes)

    def test_is_escape_of_anything(self):
        row, wish = ((1, 1),), ((0, 0),)
        good = ((0, 1), ((1, 0),))
        self.assertIs(is_escape(SWAP, wish, row, good), True)
        self.assertIs(is_escape(SWAP, wish, row, good, lot=((0, 1),)), True)
        self.assertIs(is_escape(SWAP, wish, row, good, lot=((0, 2),)), False)
        self.assertIs(is_escape(SWAP, wish, row, good, lot=()), False)
        for thing in ODD_THINGS + [(), good[:1], good + good, list(good), ((0, 1), [(1, 0)]), ([0, 1], ((1, 0),)),
                                   ((0, 1), ()), ((0, 1), ((1, 0), (1, 0))), ((0, 1), ((0, 0),)), ((0, 3), ((1, 0),)),
                                   ((0, True), ((1, 0),)), ((0, 1), ((True, False),)), ((0, 1), (None,)),
                                   ((0, 0), ((1, 0),)), ((2, 2), ((1, 0),))]:
            self.assertIs(is_escape(SWAP, wish, row, thing), False)

    def test_by_names(self):
        self.assertIs(is_escape(table=FOUR, wish=((0,),), row=(), thing=((1,), ()), lot=None), True)
        self.assertEqual(escape(table=FOUR, wish=((0,),), row=(), lot=((2,),)), ((2,), ()))
        self.assertEqual(lots_of(table=FOUR, wish=((0,),), row=(), lot=((2,),)), (((2,),),))
        self.assertIs(is_sure(table=FOUR, wish=((0,),), row=(), lot=((2,),)), False)
        self.assertEqual(latest(table=FOUR, wish=((0,),), row=((2,),), lot=((2,),)), {(2,): 1})
        self.assertEqual(told_back(table=FOUR, row=((3,),)), ((1,),))
        self.assertEqual(escape_back(table=FOUR, wish=((0,),), row=((3,),), thing=((2,), ((0,),))), ((1,), ((0,),)))

    def test_lots_stand_behind_the_star(self):
        for call, args in ((lots_of, (FOUR, ((0,),), ())), (is_sure, (FOUR, ((0,),), ())), (latest, (FOUR, ((0,),), ())),
                           (escape, (FOUR, ((0,),), ())), (is_escape, (FOUR, ((0,),), (), None)), (sorts, (FOUR,)),
                           (fewest, (FOUR, ((0,),))), (least_row, (FOUR, ((0,),))), (count_least, (FOUR, ((0,),)))):
            with self.assertRaises(TypeError):
                call(*args, ())


class ToldBack(Case):
    def test_by_hand(self):
        self.assertEqual(told_back(SWAP, ()), ())
        self.assertEqual(told_back(SWAP, ((0, 1),)), ((0, 2),))
        self.assertEqual(told_back(SWAP, ((0, 1), (2, 2), (1, 0))), ((2, 0), (1, 1), (0, 2)))

    def test_there_and_back(self):
        for table, wish, row, _ in each_case():
            back = told_back(table, row)
            self.assertEqual(back, tuple(slow_minus(table, (0,) * len(deed), deed) for deed in reversed(row)))
            self.assertEqual(told_back(table, back), row)
            self.assertIs(is_sure(table, wish, back), is_sure(table, wish, row))

    def test_escape_back_by_hand(self):
        one, two, calm = (1, 2, 0), (2, 0, 1), (0, 1, 2)
        row = ((0, 0, 1), (0, 1, 0), (1, 1, 1))
        run = ((0, 1, 0), (one, two, calm))
        # 010 turned: 001, becomes 000; so begin with 110 instead: 011, 010; turned back: 100, 110; calm: 001.
        wish = ((0, 0, 0),)
        run = ((1, 1, 0), (one, two, calm))
        self.assertEqual(walked(TURN_THREE, run, row), [(1, 1, 0), (0, 1, 0), (1, 1, 0), (0, 0, 1)])
        told = escape_back(TURN_THREE, wish, row, run)
        self.assertEqual(told, ((0, 0, 1), (calm, calm, one)))
        self.assertEqual(walked(TURN_THREE, told, told_back(TURN_THREE, row)),
                         [(0, 0, 1), (1, 1, 0), (1, 0, 0), (0, 1, 1)])

    def test_escape_back_goes_as_told(self):
        for table, wish, row, _ in each_case((SWAP, TURN_THREE, FOUR)):
            whole = tuple(slow_free(table, wish))
            calm = tuple(range(len(table[1][0])))
            for run in all_runs(table, row, whole):
                if rings_at(table, wish, run, row) is None:
                    told = escape_back(table, wish, row, run)
                    self.assertIs(is_escape(table, wish, told_back(table, row), told), True)
                    behind = slow_walk(table, run, row)
                    self.assertEqual(told[0], behind[-1])
                    end = slow_walk(table, told, told_back(table, row))[-1]
                    if row:
                        self.assertEqual(told[1][0], calm)
                        self.assertEqual(end, slow_turned(run[1][0], run[0]))
                    again = escape_back(table, wish, told_back(table, row), told)
                    self.assertEqual(again[1][1:], run[1][1:])
                else:
                    self.refused(BadRun, None, escape_back, table, wish, row, run)

    def test_no_escape_is_refused(self):
        for thing in ODD_THINGS + [(), ((0, 0), ((1, 0),)), ((0, 3), ((1, 0),)), ((0, 1), ((1, 1),)), ((0, 1), ()),
                                   ((2, 2), ((1, 0),))]:
            self.refused(BadRun, None, escape_back, SWAP, ((0, 0),), ((1, 1),), thing)


def slow_shortest(table, wish, lets, lot, most):
    """All sure rows of the least number of let deeds, up to most of these."""
    for many in range(most + 1):
        found = []
        for row in itertools.product(lets, repeat=many):
            left = lot
            for deed in row:
                left = slow_behind(table, wish, left, deed)
            if not left:
                found.append(row)
        if found:
            return found
    return []


class Shortest(Case):
    def test_by_hand(self):
        wish = alike(RING_FOUR)
        self.assertEqual(fewest(RING_FOUR, wish), 7)
        self.assertEqual(least_row(RING_FOUR, wish), SEVEN_DEEDS)
        # Four deeds of the two like 0101, two of the four like 0011, one of the eight like 0001 or 0111.
        self.assertEqual(count_least(RING_FOUR, wish), 2 ** 4 * 4 ** 2 * 8)
        self.assertIsNone(fewest(TURN_THREE, noughts(TURN_THREE)))
        self.barred(Never, least_row, TURN_THREE, noughts(TURN_THREE))
        self.assertEqual(count_least(TURN_THREE, noughts(TURN_THREE)), 0)
        self.assertEqual(fewest(FOUR, ((0,),)), 3)
        self.assertEqual(least_row(FOUR, ((0,),)), ((1,), (1,), (1,)))
        self.assertEqual(count_least(FOUR, ((0,),)), 6)

    def test_where_all_rang_at_once(self):
        for table, lot in ((FOUR, ()), (TURN_THREE, ())):
            for lets in (None, (), ((0,) * len(table[1][0]),)):
                self.assertEqual(fewest(table, noughts(table), lets=lets, lot=lot), 0)
                self.assertEqual(least_row(table, noughts(table), lets=lets, lot=lot), ())
                self.assertEqual(count_least(table, noughts(table), lets=lets, lot=lot), 1)
        self.assertEqual(fewest(CALM_ONE, ((0,), (1,))), 0)

    def test_no_let_deeds(self):
        self.assertIsNone(fewest(FOUR, ((0,),), lets=()))
        self.barred(Never, least_row, FOUR, ((0,),), lets=())
        self.assertEqual(count_least(FOUR, ((0,),), lets=()), 0)
        self.assertIsNone(fewest(FOUR, ((0,),), lets=((2,),)))
        self.assertEqual(fewest(FOUR, ((0,),), lets=((2,),), lot=((2,),)), 1)
        self.assertIsNone(fewest(FOUR, ((0,),), lets=((0,), (2,)), lot=((1,), (2,))))

    def one(self, table, wish, lets, lot, most):
        whole = tuple(slow_free(table, wish))
        found = slow_shortest(table, wish, slow_stands(table) if lets is None else lets, whole if lot is None else lot, most)
        if found:
            self.assertEqual(fewest(table, wish, lets=lets, lot=lot), len(found[0]))
            self.assertEqual(least_row(table, wish, lets=lets, lot=lot), found[0])
            self.assertEqual(count_least(table, wish, lets=lets, lot=lot), len(found))
            self.assertTrue(set(found[0]) <= set(sorts(table, lets=lets)))
        else:
            told = fewest(table, wish, lets=lets, lot=lot)
            self.assertTrue(told is None or told > most)

    def test_against_all_rows(self):
        for table in (FOUR, CALM_ONE, (2, ((0, 1),)), (5, ((0,),))):
            for wish in few_wishes(table):
                for lot in few_lots(table, wish) + [None]:
                    stands = slow_stands(table)
                    for lets in (None, (), tuple(stands[1:]), tuple(stands[-1:]), tuple(stands[:2]), tuple(stands[::2])):
                        self.one(table, wish, lets, lot, 3)

    def test_against_all_rows_of_turned_tables(self):
        for table, some in ((SWAP, 2), (TURN_THREE, 2), (CROSS, 5)):
            for wish in few_wishes(table)[::some] + [alike(table)]:
                for lot in few_lots(table, wish)[1::2]:
                    stands = slow_stands(table)
                    for lets in (None, tuple(stands[1:6]), tuple(stands[-3:])):
                        self.one(table, wish, lets, lot, 2)

    def test_where_nothing_is_turned(self):
        for table in (FOUR, (2, ((0, 1),)), (3, ((0, 1),)), (2, ((0, 1, 2),)), (7, ((0,),)), (9, ((0,),)), (4, ((0, 1),))):
            for told in tuples_of(slow_stands(table)[::2], 2)[1:]:
                wish = even_by(table, told)
                self.assertIs(is_even(table, wish), True)
                many = len(slow_stands(table)) // len(wish)
                if len(slow_stands(table)) - len(wish) <= 12:
                    self.assertEqual(fewest(table, wish), many - 1)
                    count = math.factorial(many - 1) * len(wish) ** (many - 1)
                    self.assertEqual(count_least(table, wish), count)
                    self.assertIs(is_sure(table, wish, least_row(table, wish)), True)

    def test_no_fewer_than_stands_by_wished_ones(self):
        for table in SMALL_TABLES:
            for wish in few_wishes(table):
                if len(slow_free(table, wish)) <= 12:
                    told = fewest(table, wish)
                    if told is not None:
                        stands, wished = len(slow_stands(table)), len(slow_wished(table, wish))
                        self.assertGreaterEqual(told, (stands + wished - 1) // wished - 1)
                        self.assertEqual(len(least_row(table, wish)), told)
                        self.assertIs(is_sure(table, wish, least_row(table, wish)), True)
                        self.assertIsNotNone(escape(table, wish, least_row(table, wish)[1:]) if told else ())

    def test_too_great(self):
        many = slow_orbits((2, ((0, 1, 2, 3),)))
        for call in (fewest, least_row, count_least):
            self.barred(TooGreat, call, (2, ((0, 1, 2, 3),)), tuple(many[:3]))
            self.barred(TooGreat, call, (2, ((0, 1, 2, 3),)), tuple(many[:3]), lets=(), lot=())
            self.barred(TooGreat, call, FORTY_TWO, tuple(slow_orbits(FORTY_TWO)))
            self.barred(TooGreat, call, FORTY_TWO, tuple(slow_orbits(FORTY_TWO)[12:]), lot=())
        self.assertEqual(fewest((2, ((0, 1, 2, 3),)), tuple(many[:4])), 3)

    def test_by_names(self):
        self.assertEqual(fewest(table=FOUR, wish=((0,),), lets=((1,),), lot=((2,),)), 2)
        self.assertEqual(least_row(table=FOUR, wish=((0,),), lets=((1,),), lot=((2,),)), ((1,), (1,)))
        self.assertEqual(count_least(table=FOUR, wish=((0,),), lets=((1,),), lot=((2,),)), 1)


ROW_CALLS = [(lots_of, ()), (is_sure, ()), (latest, ()), (escape, ()), (is_escape, (None,))]
SEARCH_CALLS = [fewest, least_row, count_least]


class Refusals(Case):
    def test_bad_tables_come_ahead_of_all(self):
        for bad, place in ((BAD_TABLE, "closed"), (None, None)):
            for call, args in ROW_CALLS:
                self.refused(BadTable, place, call, bad, None, None, *args, lot=0)
            for call in SEARCH_CALLS:
                self.refused(BadTable, place, call, bad, None, lets=0, lot=0)
            self.refused(BadTable, place, sorts, bad, lets=0)
            self.refused(BadTable, place, told_back, bad, None)
            self.refused(BadTable, place, escape_back, bad, None, None, None)

    def test_no_wish_comes_next(self):
        for wish, number in ((None, None), ((), None), (((1, 0),), 0), (((0, 1), (0, 1)), 1)):
            for call, args in ROW_CALLS:
                self.refused(BadWish, number, call, SWAP, wish, None, *args, lot=0)
            for call in SEARCH_CALLS:
                self.refused(BadWish, number, call, SWAP, wish, lets=0, lot=0)
            self.refused(BadWish, number, escape_back, SWAP, wish, None, None)

    def test_no_row_comes_next(self):
        for row, number in ((None, None), ([], None), (((0, 0), (0, 3)), 1), ((0, 0), 0)):
            for call, args in ROW_CALLS:
                self.refused(BadRow, number, call, SWAP, ((0, 0),), row, *args, lot=0)
            self.refused(BadRow, number, escape_back, SWAP, ((0, 0),), row, None)
            self.refused(BadRow, number, told_back, SWAP, row)

    def test_no_lots(self):
        for lot, number in ((0, None), ([], None), (((0, 0),), 0), (((0, 1), (0, 1)), 1), (((0, 1), (2, 0)), 1)):
            for call, args in ROW_CALLS:
                self.refused(BadLot, number, call, SWAP, ((0, 0),), (), *args, lot=lot)
            for call in SEARCH_CALLS:
                self.refused(BadLot, number, call, SWAP, ((0, 0),), lot=lot)
                self.refused(BadStand, None, call, SWAP, ((0, 0),), lets=[], lot=lot)
                self.refused(BadStand, 1, call, SWAP, ((0, 0),), lot=lot, lets=((0, 0), (0, 0)))

    def test_too_great_comes_last(self):
        table, wish = (2, ((0, 1, 2, 3),)), ((0, 0, 0, 0),)
        for call in SEARCH_CALLS:
            self.barred(TooGreat, call, table, wish)
            self.refused(BadLot, 0, call, table, wish, lot=wish)
            self.refused(BadStand, 0, call, table, wish, lets=(None,), lot=wish)


if __name__ == "__main__":
    unittest.main()
