"""Points 64 and 65: what can't have been heard, which steps clash, trails."""

import itertools
import random
import unittest

from tests.helpers import (
    CALM_ONE, ODD_THINGS, SWAP, TURN_THREE, Case, random_hearing, random_step, slow_free, slow_least, slow_orbits,
    slow_stands, slow_step, slow_turned, slow_wished, tuples_of)
from tests.test_hearings import BAD_TABLE, BLIND, FELT, RING, TABLES, WISH
from unseenturn.clashes import are_clashing, check_trail, first_wrong, least_clash, trail
from unseenturn.errors import BadHearing, BadPaper, BadTable, BadWish, NotSure, OutOfPlace, TooGreat
from unseenturn.hearings import runs
from unseenturn.making import mirrored, ring
from unseenturn.wishes import alike, noughts

STAY, GO = ("blind", (0,), False), ("blind", (1,), False)
NO_NUMBERS = [None, [], [0], {}, {0: 1}, 0, True, "0", (2,), (-1,), (1, 0), (0, 0), (True,), (False, 1), (0, True), (0.0,),
              ("0",), (None,), (0, 1, 2), ((0,),), (10 ** 30,), (0, None)]


def slow_trail(table, wish, hearing, steps):
    """What can be come to behind no step, one, .. all, by all stands and turnings, with what was heard at these alone."""
    found = [tuple(slow_free(table, wish))]
    for number, step in enumerate(hearing):
        goals = set()
        for stand in slow_wished(table, found[-1]):
            for turning in table[1]:
                later, so = slow_step(table, wish, step, slow_turned(turning, stand))
                if so or number not in steps:
                    goals.add(slow_least(table, later))
        found.append(tuple(sorted(goals)))
    return tuple(found)


def all_steps(hearing):
    return tuples_of(range(len(hearing)), len(hearing))


def wrong_hearings(seed, many, most):
    """Tables, wishes and hearings, many of which can't be."""
    chance = random.Random(seed)
    for table in TABLES:
        for _ in range(many):
            wish = chance.choice([noughts(table), alike(table), tuple(chance.sample(slow_orbits(table), 1))])
            hearing = list(random_hearing(chance, table, wish, chance.randint(0, most)))
            for at in range(len(hearing)):
                if chance.random() < 0.3:
                    hearing[at] = random_step(chance, table, hearing[at][-1])
            if hearing and chance.random() < 0.4:
                hearing[-1] = hearing[-1][:-1] + (not hearing[-1][-1],)
            yield table, wish, tuple(hearing)


class Clashes(Case):
    def test_by_hand(self):
        wish = ((0,),)
        # 1 stays 1; once it has gone the bell rings.
        self.assertIsNone(first_wrong(CALM_ONE, wish, (STAY, STAY)))
        self.assertIsNone(first_wrong(CALM_ONE, wish, ()))
        self.assertEqual(first_wrong(CALM_ONE, wish, (STAY, GO, STAY)), 2)
        self.assertEqual(first_wrong(CALM_ONE, wish, (GO, GO)), 1)
        self.assertEqual(first_wrong(CALM_ONE, wish, (STAY, STAY[:2] + (True,))), 2)
        self.assertEqual(least_clash(CALM_ONE, wish, (STAY, GO, STAY)), (1,))
        self.assertEqual(least_clash(CALM_ONE, wish, (GO, GO, GO, STAY)), (0,))
        self.assertIsNone(least_clash(CALM_ONE, wish, (STAY, STAY)))
        self.assertIsNone(least_clash(CALM_ONE, wish, ()))
        for steps, clash in (((), False), ((0,), False), ((1,), True), ((0, 1), True), ((2,), True), ((0, 2), True)):
            self.assertIs(are_clashing(CALM_ONE, wish, (STAY, GO, STAY), steps), clash)
        # A bell is passed by: behind two that are forgotten it is 1 again.
        self.assertIs(are_clashing(CALM_ONE, wish, (GO, GO, STAY), (1,)), False)
        self.assertIs(are_clashing(CALM_ONE, wish, (GO, GO, STAY), (1, 2)), False)
        self.assertIs(are_clashing(CALM_ONE, wish, (GO, GO, STAY), (0, 1)), True)
        self.assertEqual(trail(CALM_ONE, wish, (GO, STAY), (0,)), ((((1,),), (), ())))
        self.assertEqual(trail(CALM_ONE, wish, (GO, STAY), (1,)), ((((1,),), ((0,),), ())))

    def test_a_clash_of_two(self):
        # Three faces on one seat, 0 is wished: by 1 the bell would have rung of 2; then, back again, by 2 of 1.
        table = (3, ((0,),))
        stay, one, two = [("blind", (face,), False) for face in range(3)]
        for hearing, due in (((one, two, two), (0, 2)), ((two, one, one), (0, 2)), ((stay, one, two, two), (1, 3)),
                             ((one, one), (0, 1)), ((stay, one, stay, one), (1, 3)), ((one, two, stay, two, two), (0, 3)),
                             ((one, stay, two, stay), None)):
            self.assertEqual(least_clash(table, noughts(table), hearing), due)
            self.assertEqual(are_clashing(table, noughts(table), hearing, due or ()), due is not None)
            for number in due or ():
                self.assertIs(are_clashing(table, noughts(table), hearing, (number,)), False)
        # SETTING is put whatever was felt: 1 was put at seat 0, so 0 can't be felt there, whatever was ahead.
        table = (2, ((0, 1, 2),))
        put, aside = ("felt", (0,), (0,), (1,), False), ("felt", (1, 2), (1, 0), (1, 1), False)
        self.assertEqual(least_clash(table, noughts(table), (put, aside, put)), (2,))

    def test_least_of_like_many_is_the_first(self):
        # NOUGHTS is wished, nobody turns: seat 0 can't be 0 and, with nothing done between, 1.
        table = (2, ((0, 1),))
        nothing = ("blind", (0, 0), False)
        down, other = ("blind", (0, 1), False), ("blind", (1, 0), False)
        hearing = (nothing, other, other, down, down, ("blind", (1, 1), False))
        for wish in (noughts(table), ((0, 1),)):
            clashing = [steps for steps in all_steps(hearing) if are_clashing(table, wish, hearing, steps)]
            due = min(clashing, key=lambda steps: (len(steps), steps)) if clashing else None
            self.assertEqual(least_clash(table, wish, hearing), due)
        # Whichever of (0, 1), (1, 0), (1, 1) it was: three bells, of which each one was due.
        self.assertEqual(least_clash(table, noughts(table), (other, other, down, down, ("blind", (1, 1), False))), (0, 2, 4))

    def test_where_every_orbit_is_wished(self):
        for table in TABLES:
            wish = tuple(slow_orbits(table))
            step = ("blind", slow_stands(table)[1], False)
            for hearing in ((), (step,), (step,) * 10, (step[:2] + (True,),)):
                self.assertEqual(first_wrong(table, wish, hearing), 0)
                self.assertEqual(least_clash(table, wish, hearing), ())
                self.assertIs(are_clashing(table, wish, hearing, ()), True)
                self.assertEqual(trail(table, wish, hearing, ()), ((),) * (len(hearing) + 1))
            self.barred(TooGreat, least_clash, table, wish, (step,) * 11)
            self.assertEqual(first_wrong(table, wish, (step,) * 11), 0)

    def test_against_the_words(self):
        some = []
        for table, wish, hearing in wrong_hearings(1, 30, 4):
            found = {steps: slow_trail(table, wish, hearing, steps) for steps in all_steps(hearing)}
            clashing = [steps for steps in found if found[steps][-1] == ()]
            for steps in found:
                self.assertIs(are_clashing(table, wish, hearing, steps), steps in clashing)
                if steps in clashing:
                    self.assertEqual(trail(table, wish, hearing, steps), found[steps])
                    self.assertIsNone(check_trail(table, wish, hearing, steps, found[steps]))
                else:
                    self.barred(NotSure, trail, table, wish, hearing, steps)
            whole = found[tuple(range(len(hearing)))]
            self.assertEqual(first_wrong(table, wish, hearing), whole.index(()) if () in whole else None)
            due = min(clashing, key=lambda steps: (len(steps), steps)) if clashing else None
            self.assertEqual(least_clash(table, wish, hearing), due)
            self.assertIs(runs(table, wish, hearing) == 0, due is not None)
            some.append(-1 if due is None else len(due))
        for many in (-1, 1, 2):
            self.assertGreater(some.count(many), 5)

    def test_what_has_clashing_ones_in_it_clashes(self):
        for table, wish, hearing in wrong_hearings(2, 8, 5):
            clashing = {steps: are_clashing(table, wish, hearing, steps) for steps in all_steps(hearing)}
            for steps, clash in clashing.items():
                for number in range(len(hearing)):
                    if clash and number not in steps:
                        self.assertTrue(clashing[tuple(sorted(steps + (number,)))])

    def test_first_wrong_is_of_the_least_beginning(self):
        for table, wish, hearing in wrong_hearings(3, 20, 5):
            told = [number for number in range(len(hearing) + 1) if runs(table, wish, hearing[:number]) == 0]
            self.assertEqual(first_wrong(table, wish, hearing), told[0] if told else None)

    def test_more_than_ten_steps(self):
        wish = ((0,),)
        self.assertIsNone(least_clash(CALM_ONE, wish, (STAY,) * 10))
        self.assertEqual(least_clash(CALM_ONE, wish, (STAY,) * 9 + (GO,)), (9,))
        self.barred(TooGreat, least_clash, CALM_ONE, wish, (STAY,) * 11)
        self.barred(TooGreat, least_clash, CALM_ONE, wish, (STAY,) * 10 + (GO,))
        self.barred(TooGreat, least_clash, CALM_ONE, wish, (GO,) * 100)
        self.assertEqual(first_wrong(CALM_ONE, wish, (STAY,) * 99 + (GO,)), 100)
        self.assertIs(are_clashing(CALM_ONE, wish, (STAY,) * 99 + (GO,), (3, 99)), True)
        self.assertEqual(len(trail(CALM_ONE, wish, (STAY,) * 99 + (GO,), (99,))), 101)

    def test_ten_steps_among_many_orbits(self):
        table = (3, ((0, 1, 2, 3, 4, 5),))
        chance = random.Random(5)
        hearing = tuple(("blind", chance.choice(slow_stands(table)), False) for _ in range(9))
        self.assertIsNone(least_clash(table, noughts(table), hearing + (("blind", (0,) * 6, False),)))
        told = [("felt", (0,), (face,), (face,), False) for face in (0, 1)]
        self.assertEqual(least_clash(table, noughts(table), hearing[:3] + tuple(told) + hearing[3:8]), (4,))


class Trails(Case):
    def bad(self, place, hearing, steps, paper):
        self.refused(BadPaper, place, check_trail, TURN_THREE, WISH, hearing, steps, paper)

    def test_places(self):
        one, two, three, four = slow_orbits(TURN_THREE)
        look = ("felt", (0, 1), (0, 0), (0, 0), False)
        hearing = (look, ("felt", (0, 1), (1, 1), (0, 0), False))
        steps = (0, 1)
        good = ((two, three), (two,), ())
        self.assertEqual(trail(TURN_THREE, WISH, hearing, steps), good)
        self.assertIsNone(check_trail(TURN_THREE, WISH, hearing, steps, good))
        # More orbits may stand in it, wished ones, too; but what these come to has to stand there as well.
        self.assertIsNone(check_trail(TURN_THREE, WISH, hearing, steps, ((one, two, three), (one, two), ())))
        self.assertIsNone(check_trail(TURN_THREE, WISH, hearing, steps, ((one, two, three), (one, two, three), ())))
        self.bad(2, hearing, steps, ((one, two, three, four), (one, two, three, four), ()))
        self.bad(2, hearing, steps, ((two, three), (two, four), ()))
        for thing in ODD_THINGS + [good[:2], good + ((),), list(good), (), {}]:
            if not isinstance(thing, tuple) or len(thing) != 3:
                self.bad(None, hearing, steps, thing)
        for thing in ODD_THINGS + [[two, three], (three, two), (two, two, three), (two, three, three), (two, (0, 1, 0)),
                                   (two,), (three,), (), (two, three, None), (two, (0, True, 1)), two, (two, three, (0, 0, 2)),
                                   {two: 1, three: 2}, (one, four)]:
            self.bad(0, hearing, steps, (thing, (two,), ()))
        for thing in ODD_THINGS + [[two], (two, one), (two, two), (), (one,), (three,), ((1, 0, 0),), (two, None)]:
            self.bad(1, hearing, steps, ((two, three), thing, ()))
        for thing in ODD_THINGS + [(one,), (two,), [], (four,), None]:
            self.bad(2, hearing, steps, ((two, three), (two,), thing))
        # The first that is due, whatever else is wrong.
        self.bad(0, hearing, steps, ((two,), None, None))
        self.bad(1, hearing, steps, ((two, three), (), (one,)))

    def test_no_step_at_all(self):
        self.bad(0, (), (), (((0, 0, 1), (0, 1, 1)),))
        self.bad(0, (), (), ((),))
        self.bad(None, (), (), ())
        whole = tuple(slow_orbits(TURN_THREE))
        self.assertIsNone(check_trail(TURN_THREE, whole, (), (), ((),)))
        self.refused(BadPaper, 0, check_trail, TURN_THREE, whole, (), (), (whole[:1],))

    def test_a_trail_is_for_these_steps(self):
        hearing = (BLIND, ("felt", (0, 1, 2), (0, 0, 0), (0, 0, 1), False))
        paper = trail(TURN_THREE, WISH, hearing, (0, 1))
        self.assertIsNone(check_trail(TURN_THREE, WISH, hearing, (0, 1), paper))
        self.refused(BadPaper, 1, check_trail, TURN_THREE, WISH, hearing, (1,), paper)
        self.barred(NotSure, trail, TURN_THREE, WISH, hearing, (1,))
        self.barred(NotSure, trail, TURN_THREE, WISH, hearing, ())

    def test_no_trail_where_they_do_not_clash(self):
        for table, wish, hearing in wrong_hearings(6, 6, 3):
            for steps in all_steps(hearing):
                told = slow_trail(table, wish, hearing, steps)
                if told[-1]:
                    self.refused(BadPaper, len(hearing), check_trail, table, wish, hearing, steps, told)
                    self.refused(BadPaper, len(hearing), check_trail, table, wish, hearing, steps, told[:-1] + ((),))

    def test_a_hundred_steps(self):
        table = (3, mirrored(6))
        chance = random.Random(2)
        hearing = tuple(("blind", chance.choice(slow_stands(table)), False) for _ in range(99))
        hearing += (("felt", (0,), (1,), (1,), True),)
        paper = trail(table, noughts(table), hearing, (99,))
        self.assertIsNone(check_trail(table, noughts(table), hearing, (99,), paper))
        self.assertEqual(paper[0], tuple(slow_free(table, noughts(table))))
        self.assertEqual(first_wrong(table, noughts(table), hearing), 100)


class Refusals(Case):
    CALLS = [(first_wrong, ()), (are_clashing, ("steps",)), (least_clash, ()), (trail, ("steps",)),
             (check_trail, ("steps", "paper"))]

    def test_order(self):
        for call, names in self.CALLS:
            more = {name: None for name in names}
            for table, place in ((BAD_TABLE, "closed"), (None, None), ([], None)):
                self.refused(BadTable, place, call, table=table, wish=None, hearing=None, **more)
            for wish, number in ((None, None), ((), None), (((0, 0, 1), (0, 0, 1)), 1), (((1, 0, 0),), 0), ((None,), 0)):
                self.refused(BadWish, number, call, table=TURN_THREE, wish=wish, hearing=None, **more)
            for hearing, number in ((None, None), ([], None), ((BLIND, None), 1), ((RING, BLIND), 0), ((BLIND,) * 101, None)):
                self.refused(BadHearing, number, call, table=TURN_THREE, wish=WISH, hearing=hearing, **more)
            if names:
                self.barred(OutOfPlace, call, table=TURN_THREE, wish=WISH, hearing=(BLIND, FELT), **more)

    def test_steps_out_of_place(self):
        for thing in ODD_THINGS + NO_NUMBERS:
            for call, more in ((are_clashing, ()), (trail, ()), (check_trail, (None,))):
                self.barred(OutOfPlace, call, TURN_THREE, WISH, (BLIND, FELT), thing, *more)
                if thing not in ((), None):
                    self.barred(OutOfPlace, call, TURN_THREE, WISH, (), thing, *more)
        for steps in ((), (0,), (1,), (0, 1)):
            self.assertIs(are_clashing(TURN_THREE, WISH, (BLIND, FELT), steps), False)

    def test_anything(self):
        for thing in ODD_THINGS:
            number = 0 if isinstance(thing, tuple) else None
            for call, names in self.CALLS:
                more = (None,) * len(names)
                self.refused(BadTable, None, call, thing, WISH, (), *more)
                self.refused(BadWish, number, call, TURN_THREE, thing, (), *more)
                self.refused(BadHearing, number, call, TURN_THREE, WISH, thing, *more)

    def test_by_names(self):
        told = {"hearing": (GO, STAY), "wish": ((0,),), "table": CALM_ONE}
        paper = (((1,),), (), ())
        self.assertEqual(first_wrong(**told), 1)
        self.assertIs(are_clashing(steps=(0,), **told), True)
        self.assertEqual(least_clash(**told), (0,))
        self.assertEqual(trail(steps=(0,), **told), paper)
        self.assertIsNone(check_trail(paper=paper, steps=(0,), **told))


if __name__ == "__main__":
    unittest.main()
