"""Point 22: wishes, what is wished, alike, even wishes, the least even wish with told stands."""

import itertools
import unittest

from tests.helpers import (
    CALM_ONE, ODD_THINGS, SMALL_TABLES, SWAP, TURN_THREE, Case, all_orders, slow_least, slow_minus, slow_orbit,
    slow_orbits, slow_plus, slow_stands, slow_wished, tuples_of)
from unseenturn.errors import BadStand, BadTable, BadWish
from unseenturn.tables import turned
from unseenturn.wishes import alike, even_by, is_even, is_wish, is_wished, need_wish, noughts, wish_by, wished

BAD_TABLE = (2, ((1, 0),))
RING_FOUR = (2, ((0, 1, 2, 3), (1, 2, 3, 0), (2, 3, 0, 1), (3, 0, 1, 2)))

# Where all wishes are looked at.
TINY_TABLES = [table for table in SMALL_TABLES if len(slow_orbits(table)) <= 6]


def all_wishes(table):
    return tuples_of(slow_orbits(table), len(slow_orbits(table)))[1:]


def slow_is_even(table, told):
    return all(slow_plus(table, slow_minus(table, one, two), three) in told
               for one in told for two in told for three in told)


class Wishes(Case):
    def test_good_ones(self):
        for table in TINY_TABLES:
            for wish in all_wishes(table):
                self.assertIs(is_wish(table, wish), True)
                self.assertIsNone(need_wish(table, wish))

    def bad_wish(self, number, thing, table=SWAP):
        self.assertIs(is_wish(table, thing), False)
        self.refused(BadWish, number, need_wish, table, thing)

    def test_no_tuple_or_none(self):
        for thing in [None, True, False, 0, 1, "", "00", b"\x00", [], [(0, 0)], {}, {(0, 0): 1}, {(0, 0)}, 1.0, object(),
                      int, range(2), ()]:
            self.bad_wish(None, thing)

    def test_no_stand(self):
        for thing in ODD_THINGS + [(0,), (0, 1, 2), [0, 1], (0, 3), (0, True), (False, 0)]:
            self.bad_wish(0, (thing,))
            self.bad_wish(0, (thing, (0, 0)))
            self.bad_wish(1, ((0, 0), thing))
            self.bad_wish(2, ((0, 0), (0, 1), thing, (0, 0)))
        self.bad_wish(0, (0, 0))

    def test_no_least_one(self):
        self.bad_wish(0, ((1, 0),))
        self.bad_wish(1, ((0, 0), (1, 0), (0, 0)))
        self.bad_wish(1, ((0, 1, 1), (1, 0, 1)), TURN_THREE)
        self.bad_wish(0, ((1, 1, 0),), TURN_THREE)
        self.assertIs(is_wish((3, ((0, 1),)), ((1, 0),)), True)

    def test_twice_or_not_rising(self):
        self.bad_wish(1, ((0, 0), (0, 0)))
        self.bad_wish(1, ((0, 1), (0, 0)))
        self.bad_wish(2, ((0, 0), (0, 2), (0, 1), (0, 1)))
        self.bad_wish(2, ((0, 0), (1, 1), (1, 1)))
        self.bad_wish(3, ((0, 0), (0, 1), (1, 1), (0, 2)))

    def test_lists_and_truths_within(self):
        self.bad_wish(0, ([0, 0],))
        self.bad_wish(1, ((0, 0), (True, True)))
        self.bad_wish(0, ((False, False),))

    def test_noughts_and_alike(self):
        self.assertEqual(noughts(SWAP), ((0, 0),))
        self.assertEqual(noughts(CALM_ONE), ((0,),))
        self.assertEqual(noughts(RING_FOUR), ((0, 0, 0, 0),))
        self.assertEqual(alike(SWAP), ((0, 0), (1, 1), (2, 2)))
        self.assertEqual(alike(CALM_ONE), ((0,), (1,)))
        self.assertEqual(alike(RING_FOUR), ((0, 0, 0, 0), (1, 1, 1, 1)))
        for table in SMALL_TABLES:
            self.assertIs(is_wish(table, noughts(table)), True)
            self.assertIs(is_wish(table, alike(table)), True)
            self.assertIs(is_even(table, noughts(table)), True)
            self.assertIs(is_even(table, alike(table)), True)

    def test_wished_by_hand(self):
        self.assertEqual(wished(TURN_THREE, ((0, 0, 1), (1, 1, 1))), ((0, 0, 1), (0, 1, 0), (1, 0, 0), (1, 1, 1)))
        self.assertEqual(wished(RING_FOUR, ((0, 1, 0, 1),)), ((0, 1, 0, 1), (1, 0, 1, 0)))
        self.assertIs(is_wished(TURN_THREE, ((0, 0, 1), (1, 1, 1)), (1, 0, 0)), True)
        self.assertIs(is_wished(TURN_THREE, ((0, 0, 1), (1, 1, 1)), (1, 0, 1)), False)

    def test_wished_against_all_turnings(self):
        for table in TINY_TABLES:
            for wish in all_wishes(table):
                told = slow_wished(table, wish)
                self.assertEqual(wished(table, wish), tuple(sorted(told)))
                for stand in slow_stands(table):
                    self.assertIs(is_wished(table, wish, stand), stand in told)

    def test_by_names(self):
        self.assertEqual(wished(table=SWAP, wish=((0, 1),)), ((0, 1), (1, 0)))
        self.assertIs(is_wished(table=SWAP, wish=((0, 1),), stand=(0, 1)), True)
        self.assertIs(is_wish(table=SWAP, thing=3), False)
        self.assertIsNone(need_wish(table=SWAP, wish=((0, 1),)))
        self.assertIs(is_even(table=SWAP, wish=((0, 1),)), False)
        self.assertEqual(noughts(table=SWAP) + alike(table=CALM_ONE), ((0, 0), (0,), (1,)))
        self.assertEqual(wish_by(table=SWAP, stands=((1, 0),)), ((0, 1),))
        self.assertEqual(even_by(table=SWAP, stands=((1, 0),)), ((0, 1), (2, 2)))


class ToldStands(Case):
    def test_wish_by_hand(self):
        self.assertEqual(wish_by(SWAP, ((2, 0),)), ((0, 2),))
        self.assertEqual(wish_by(SWAP, ((2, 2), (1, 0), (0, 1), (0, 0), (1, 0), (2, 2))), ((0, 0), (0, 1), (2, 2)))
        self.assertEqual(wish_by(TURN_THREE, ((1, 1, 0), (1, 0, 0))), ((0, 0, 1), (0, 1, 1)))

    def test_wish_by_any_order(self):
        for told in itertools.product(slow_stands(SWAP), repeat=3):
            self.assertEqual(wish_by(SWAP, told), tuple(sorted({slow_least(SWAP, stand) for stand in told})))

    def test_even_by_hand(self):
        # (0, 1) and (1, 0): (0, 1), (1, 0), and on by (1, 2): (2, 2).
        self.assertEqual(even_by(SWAP, ((0, 1),)), ((0, 1), (2, 2)))
        self.assertEqual(even_by(SWAP, ((1, 1),)), ((1, 1),))
        self.assertEqual(even_by(SWAP, ((2, 2), (1, 1), (2, 2))), ((0, 0), (1, 1), (2, 2)))
        self.assertEqual(even_by(TURN_THREE, ((0, 0, 1),)), ((0, 0, 1), (1, 1, 1)))
        self.assertEqual(even_by(TURN_THREE, ((0, 0, 1), (0, 0, 0))), ((0, 0, 0), (0, 0, 1), (0, 1, 1), (1, 1, 1)))
        self.assertEqual(even_by((4, ((0,),)), ((1,), (3,))), ((1,), (3,)))
        self.assertEqual(even_by((9, ((0,),)), ((8,), (2,))), ((2,), (5,), (8,)))

    def test_even_by_is_within_all_that_have_the_told_stands(self):
        for table in TINY_TABLES:
            evens = [wish for wish in all_wishes(table) if slow_is_even(table, slow_wished(table, wish))]
            for told in tuples_of(slow_stands(table), 2)[1:]:
                found = even_by(table, told)
                self.assertIn(found, evens)
                self.assertEqual(even_by(table, told[::-1]), found)
                having = [wish for wish in evens if set(told) <= slow_wished(table, wish)]
                self.assertIn(found, having)
                self.assertTrue(all(set(found) <= set(wish) for wish in having))

    def test_even_by_of_three_in_any_order(self):
        table = (6, ((0, 1), (1, 0)))
        for told in (((0, 3), (5, 1), (2, 2)), ((1, 1), (3, 3), (4, 1)), ((2, 0), (2, 3), (5, 0))):
            found = {even_by(table, some) for some in itertools.permutations(told + told[:1])}
            self.assertEqual(len(found), 1)
            whole = slow_wished(table, found.pop())
            self.assertTrue(set(told) <= whole and slow_is_even(table, whole))

    def test_no_stands(self):
        for call in (wish_by, even_by):
            for thing in [None, True, 0, "", [], [(0, 0)], {}, {(0, 0)}, {(0, 0): 1}, range(1), ()]:
                self.refused(BadStand, None, call, SWAP, thing)
            for thing in ODD_THINGS + [(0,), (0, 0, 0), [0, 0], (0, 3), (True, 0)]:
                self.refused(BadStand, 0, call, SWAP, (thing,))
                self.refused(BadStand, 0, call, SWAP, (thing, thing))
                self.refused(BadStand, 2, call, SWAP, ((1, 0), (1, 0), thing, (0, 0)))


class Even(Case):
    def test_by_hand(self):
        self.assertIs(is_even(SWAP, ((0, 0),)), True)
        self.assertIs(is_even(SWAP, ((0, 1),)), False)
        self.assertIs(is_even(SWAP, ((0, 1), (2, 2))), True)
        self.assertIs(is_even(SWAP, ((0, 0), (0, 1), (0, 2), (1, 1), (1, 2), (2, 2))), True)
        self.assertIs(is_even((4, ((0,),)), ((0,), (1,))), False)
        self.assertIs(is_even((4, ((0,),)), ((1,), (3,))), True)
        self.assertIs(is_even((4, ((0,),)), ((0,), (1,), (2,))), False)
        self.assertIs(is_even((2, ((0, 1, 2),)), ((0, 0, 1), (0, 1, 0), (1, 0, 0), (1, 1, 1))), True)
        self.assertIs(is_even((2, ((0, 1, 2),)), ((0, 0, 0), (0, 1, 0), (1, 0, 0), (1, 1, 1))), False)

    def test_against_all_triples(self):
        for table in TINY_TABLES:
            for wish in all_wishes(table):
                told = slow_wished(table, wish)
                self.assertIs(is_even(table, wish), slow_is_even(table, told))
                if is_even(table, wish):
                    self.assertEqual(len(slow_stands(table)) % len(told), 0)
                    self.assertEqual(even_by(table, tuple(told)), wish)

    def test_great_tables(self):
        for table in ((3, (tuple(range(6)),)), (9, all_orders(3)), (2, all_orders(5)), (4, all_orders(4))):
            several = even_by(table, ((0,) * len(table[1][0]), (1,) * len(table[1][0])))
            self.assertEqual(several, alike(table))
            first = (0,) * (len(table[1][0]) - 1) + (1,)
            self.assertIs(is_even(table, even_by(table, (first,))), True)
            self.assertIs(is_even(table, wish_by(table, tuple(slow_stands(table)))), True)
            self.assertIs(is_even(table, wish_by(table, tuple(slow_stands(table)[1:]))), False)

    def test_wishes_of_one_sum_are_even(self):
        for table in ((3, all_orders(3)), (2, all_orders(5)), SWAP):
            told = tuple(stand for stand in slow_stands(table) if sum(stand) % table[0] == 1)
            self.assertIs(is_even(table, wish_by(table, told)), True)
            self.assertEqual(wished(table, wish_by(table, told)), told)

    def test_turned_differences_are_differences(self):
        for table in TINY_TABLES:
            for wish in all_wishes(table):
                if is_even(table, wish):
                    told = slow_wished(table, wish)
                    heart = {slow_minus(table, one, two) for one in told for two in told}
                    self.assertEqual(len(heart), len(told))
                    self.assertTrue(all(turned(turning, stand) in heart for stand in heart for turning in table[1]))

    def test_what_two_share_is_even(self):
        table = TURN_THREE
        evens = [wish for wish in all_wishes(table) if is_even(table, wish)]
        for one, two in itertools.product(evens, evens):
            shared = tuple(sorted(set(one) & set(two)))
            if shared:
                self.assertIs(is_even(table, shared), True)
                whole = even_by(table, tuple(slow_wished(table, one) | slow_wished(table, two)))
                self.assertEqual(len(wished(table, one)) * len(wished(table, two)),
                                 len(wished(table, shared)) * len(wished(table, whole)))


class Refusals(Case):
    def test_bad_tables_come_ahead_of_all(self):
        for call, args in ((is_wish, (None,)), (need_wish, (None,)), (noughts, ()), (alike, ()), (wish_by, (None,)),
                           (even_by, (None,)), (wished, (None,)), (is_wished, (None, None)), (is_even, (None,))):
            self.refused(BadTable, "closed", call, BAD_TABLE, *args)
            self.refused(BadTable, None, call, 7, *args)

    def test_no_wish_comes_ahead_of_no_stand(self):
        for call, args in ((wished, ()), (is_even, ()), (is_wished, (None,))):
            self.refused(BadWish, None, call, SWAP, (), *args)
            self.refused(BadWish, 0, call, SWAP, ((1, 0),), *args)
            self.refused(BadWish, 1, call, SWAP, ((0, 1), (0, 0)), *args)
        for thing in ODD_THINGS:
            self.refused(BadStand, None, is_wished, SWAP, ((0, 0),), thing)
        self.refused(BadStand, 1, is_wished, SWAP, ((0, 0),), (0, 3))

    def test_orbits_of_wished_stands_are_wished_whole(self):
        for stand in slow_orbit(TURN_THREE, (0, 1, 1)):
            self.assertIs(is_wished(TURN_THREE, ((0, 1, 1),), stand), True)


if __name__ == "__main__":
    unittest.main()
