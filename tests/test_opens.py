"""Points 70 to 74: open tables, at which a late hand plays."""

import itertools
import random
import unittest

from tests.helpers import (
    CALM_ONE, ODD_THINGS, SMALL_TABLES, SWAP, TURN_THREE, Case, slow_behind, slow_depths, slow_faces, slow_felts, slow_free,
    slow_left, slow_least, slow_orbits, slow_patterns, slow_runs, slow_stands, slow_step, slow_turned, slow_wished, tuples_of)
from tests.test_plans import ACROSS, ALIKE, BAD_TABLE, CALM_FOUR, ONE, PAIR, PAIRS, PAIRS_WISH, RING_FOUR, RING_SIX, THREE
from unseenturn.errors import (
    BadFelt, BadLot, BadPattern, BadStand, BadTable, BadWish, Never, OutOfPlace, Rung, TooGreat, Untimely)
from unseenturn.hearings import is_hearing
from unseenturn.making import mirrored, ring
from unseenturn.maps import part_wish
from unseenturn.opens import OpenTable
from unseenturn.plans import depth
from unseenturn.rows import fewest, least_row
from unseenturn.wishes import alike, noughts

MUCH = 10 ** 9

BLIND = [(RING_FOUR, ALIKE), (RING_FOUR, noughts(RING_FOUR)), (RING_FOUR, (ACROSS,)), (SWAP, noughts(SWAP)),
         (SWAP, ((0, 1), (2, 2))), (TURN_THREE, alike(TURN_THREE)), (TURN_THREE, ((0, 0, 1),)), (CALM_ONE, ((1,),)),
         ((4, ring(2)), ((0, 0), (1, 1), (2, 2), (3, 3))), ((3, ((0, 1),)), ((0, 0), (0, 1), (0, 2))),
         ((2, mirrored(4)), ALIKE), ((3, ring(3)), alike((3, ring(3))))]
FEELING = [(RING_FOUR, ALIKE), (RING_FOUR, noughts(RING_FOUR)), (SWAP, noughts(SWAP)), (SWAP, ((0, 1), (2, 2))),
           (TURN_THREE, noughts(TURN_THREE)), (TURN_THREE, alike(TURN_THREE)), (CALM_ONE, ((1,),)), (PAIRS, PAIRS_WISH),
           ((2, ((0, 1, 2), (1, 0, 2))), ((0, 0, 0), (0, 1, 1))), ((2, mirrored(4)), ALIKE), ((2, ((0, 1, 2),)), ((0, 0, 0),))]


def told_of(game):
    """All that an open table tells, but by what is refused."""
    try:
        best = game.best()
    except (Rung, Never) as error:
        best = type(error)
    return game.has_rung(), game.held(), game.needed(), best, game.amid(), game.heard(), game.run()


def last_orbits(table, wish, first, heard):
    """The unwished orbits of the last stands of all runs that begin in a lot and fit what is heard."""
    runs = slow_runs(table, wish, heard)
    ends = {slow_least(table, stands[-1]) for stands in runs.values() if slow_least(table, stands[0]) in first}
    return tuple(sorted(ends - set(wish)))


class GameCase(Case):
    def fits(self, table, wish, first, game):
        """What is heard is a hearing, and the run that is told is one of those that point 73 has."""
        heard = game.heard()
        if len(heard) <= 100:
            self.assertIs(is_hearing(table, wish, heard), True)
        stand, turns = game.run()
        if not first:
            self.assertEqual((stand, turns, heard), (min(slow_wished(table, wish)), (), ()))
            return
        self.assertIn(slow_least(table, stand), first)
        self.assertIn(stand, slow_stands(table))
        self.assertIs(type(turns), tuple)
        self.assertEqual(len(turns), len(heard))
        for turning, step in zip(turns, heard):
            self.assertIn(turning, table[1])
            stand, so = slow_step(table, wish, step, slow_turned(turning, stand))
            self.assertIs(so, True)
        self.assertIs(stand in slow_wished(table, wish), game.has_rung())
        self.assertEqual(game.run(), game.run())


class Blind(GameCase):
    def lots(self, table, wish):
        free = slow_free(table, wish)
        return [None, (), tuple(free[:1]), tuple(free[-2:])]

    def test_to_the_end_by_best(self):
        some = 0
        for table, wish in BLIND:
            stands = slow_stands(table)
            for lot in self.lots(table, wish):
                for lets in (None, tuple(stands[1:]), tuple(stands[::2]), ()):
                    game = OpenTable(table, wish, lets=lets, lot=lot)
                    first = tuple(slow_free(table, wish)) if lot is None else lot
                    due = fewest(table, wish, lets=lets, lot=first)
                    self.assertEqual(game.needed(), due)
                    self.assertEqual(game.held(), first)
                    if due is None:
                        self.barred(Never, game.best)
                        continue
                    row = []
                    for left in range(due, 0, -1):
                        self.assertIs(game.has_rung(), False)
                        self.assertEqual(game.needed(), left)
                        row.append(game.best())
                        self.assertEqual(game.best(), row[-1])
                        self.assertIsNone(game.do(row[-1]))
                        self.fits(table, wish, first, game)
                        some += 1
                    self.assertIs(game.has_rung(), True)
                    self.assertEqual(game.needed(), 0)
                    self.assertEqual(tuple(row), least_row(table, wish, lets=lets, lot=first))
                    self.assertEqual(game.heard(), tuple(("blind", deed, number == due - 1) for number, deed in enumerate(row)))
                    self.barred(Rung, game.best)
        self.assertGreater(some, 60)

    def test_other_deeds(self):
        chance = random.Random(1)
        for table, wish in BLIND:
            for lot in self.lots(table, wish)[::2]:
                game = OpenTable(table, wish, lot=lot)
                due = MUCH if game.needed() is None else game.needed()
                first = game.held()
                done = 0
                while not game.has_rung() and done < 4:
                    ahead, held = game.needed(), game.held()
                    deed = chance.choice(slow_stands(table))
                    game.do(deed)
                    done += 1
                    self.assertEqual(game.held(), slow_behind(table, wish, held, deed))
                    self.assertEqual(game.needed(), fewest(table, wish, lot=game.held()))
                    if ahead is None:
                        self.assertIsNone(game.needed())
                    elif game.needed() is not None:
                        self.assertGreaterEqual(game.needed(), ahead - 1)
                    self.fits(table, wish, first, game)
                    if len(table[1]) * len(slow_stands(table)) < 100:
                        self.assertEqual(game.held(), last_orbits(table, wish, first, game.heard()))
                if game.has_rung():
                    self.assertGreaterEqual(done, due)

    def test_best_is_the_first_deed_that_does(self):
        for table, wish in BLIND:
            for lets in (None, tuple(slow_stands(table)[1::2])):
                for lot in tuples_of(slow_free(table, wish), 1):
                    game = OpenTable(table, wish, lets=lets, lot=lot)
                    if game.needed():
                        due = next(deed for deed in (lets or slow_stands(table)) if fewest(
                            table, wish, lets=lets, lot=slow_behind(table, wish, lot, deed)) == game.needed() - 1)
                        self.assertEqual(game.best(), due)

    def test_a_lot_of_none_rang_at_once(self):
        for game in (OpenTable(RING_FOUR, ALIKE, lot=()), OpenTable(RING_FOUR, ALIKE, lets=(), lot=()),
                     OpenTable(RING_FOUR, ALIKE, hands=1, lot=()), OpenTable(SWAP, tuple(slow_orbits(SWAP)))):
            self.assertIs(game.has_rung(), True)
            self.assertEqual(game.held(), ())
            self.assertEqual(game.needed(), 0)
            self.assertIsNone(game.amid())
            self.assertEqual(game.heard(), ())
            self.assertEqual(game.run()[1], ())
            for call, args in ((game.do, (None,)), (game.feel, (None,)), (game.put, (None,)), (game.best, ())):
                self.barred(Rung, call, *args)
        self.assertEqual(OpenTable(RING_FOUR, (PAIR, ACROSS), lot=()).run(), (PAIR, ()))

    def test_more_than_a_hundred_deeds(self):
        game = OpenTable(RING_FOUR, ALIKE)
        for number in range(130):
            game.do(((0, 0, 0, 1), (0, 0, 0, 0), (0, 1, 0, 1))[number % 3])
        self.assertEqual(len(game.heard()), 130)
        self.assertIs(game.has_rung(), False)
        self.fits(RING_FOUR, ALIKE, (ONE, PAIR, ACROSS, THREE), game)

    def test_fewer_turnings_need_no_more(self):
        part = (2, ((0, 1, 2, 3), (2, 3, 0, 1)))
        for wish in (ALIKE, noughts(RING_FOUR)):
            less = OpenTable(part, part_wish(RING_FOUR, part, wish))
            self.assertLessEqual(less.needed(), OpenTable(RING_FOUR, wish).needed())


class Feeling(GameCase):
    def depths_of(self, table, wish, hands):
        return {lot: MUCH if due is None else due for lot, due in slow_depths(table, wish, hands).items()}

    def behind(self, table, wish, hands, found, lot, pattern):
        """By each felt of a lot at a pattern how many are needed then."""
        return {felt: 1 + min(found[slow_left(table, wish, lot, pattern, felt, setting)] for setting in slow_faces(table, hands))
                for felt in slow_felts(table, lot, pattern)}

    def test_answers_and_best_by_the_words(self):
        for table, wish in FEELING:
            for hands in range(1, min(2, len(table[1][0])) + 1):
                found = self.depths_of(table, wish, hands)
                for lot in list(found)[1:12] + list(found)[12:][-3:]:
                    needs = found[lot]
                    told = {pattern: self.behind(table, wish, hands, found, lot, pattern)
                            for pattern in slow_patterns(table, hands)}
                    self.agrees_ahead(table, wish, hands, lot, needs, told)
                    for pattern, by_felt in told.items():
                        self.agrees_amid(table, wish, hands, lot, pattern, by_felt, found)

    def agrees_ahead(self, table, wish, hands, lot, needs, told):
        game = OpenTable(table, wish, hands=hands, lot=lot)
        self.assertEqual(game.needed(), needs if needs < MUCH else None)
        if needs < MUCH:
            self.assertEqual(game.best(), next(pattern for pattern in told if max(told[pattern].values()) <= needs))
        else:
            self.barred(Never, game.best)

    def agrees_amid(self, table, wish, hands, lot, pattern, by_felt, found):
        game = OpenTable(table, wish, hands=hands, lot=lot)
        felt = game.feel(pattern)
        most = min(MUCH, max(by_felt.values()))
        self.assertEqual(felt, min(other for other in by_felt if by_felt[other] >= most))
        self.assertEqual(game.amid(), (pattern, felt))
        self.assertEqual(game.held(), lot)
        self.assertEqual(game.heard(), ())
        self.assertEqual(game.needed(), None if by_felt[felt] >= MUCH else by_felt[felt])
        lefts = {setting: slow_left(table, wish, lot, pattern, felt, setting) for setting in slow_faces(table, hands)}
        if by_felt[felt] >= MUCH:
            self.barred(Never, game.best)
            setting = next(iter(lefts))
        else:
            setting = next(other for other in lefts if found[lefts[other]] == by_felt[felt] - 1)
            self.assertEqual(game.best(), setting)
        self.assertIsNone(game.put(setting))
        self.assertEqual(game.held(), lefts[setting])
        self.assertIsNone(game.amid())
        self.assertIs(game.has_rung(), lefts[setting] == ())
        self.assertEqual(game.heard(), (("felt", pattern, felt, setting, lefts[setting] == ()),))
        self.assertEqual(game.held(), last_orbits(table, wish, lot, game.heard()))

    def test_to_the_end_by_best(self):
        some = 0
        for table, wish in FEELING + [((2, ring(5)), alike((2, ring(5))))]:
            for hands in range(1, len(table[1][0]) + 1):
                free = slow_free(table, wish)
                for lot in [None] + tuples_of(free, 1)[1:]:
                    game = OpenTable(table, wish, hands=hands, lot=lot)
                    first = tuple(free) if lot is None else lot
                    due = depth(table, wish, hands, first)
                    self.assertEqual(game.needed(), due)
                    for left in range(due or 0, 0, -1):
                        self.assertIs(game.has_rung(), False)
                        self.assertEqual(game.needed(), left)
                        game.feel(game.best())
                        self.assertEqual(game.needed(), left)
                        self.assertIs(game.has_rung(), False)
                        self.fits(table, wish, first, game)
                        game.put(game.best())
                        self.fits(table, wish, first, game)
                        some += 1
                    self.assertIs(game.has_rung(), due is not None)
                    self.assertEqual(game.needed(), due and 0)
        self.assertGreater(some, 60)

    def test_other_deeds(self):
        chance = random.Random(2)
        for table, wish in FEELING * 2:
            for hands in range(1, min(3, len(table[1][0])) + 1):
                game = OpenTable(table, wish, hands=hands)
                due = MUCH if game.needed() is None else game.needed()
                first = game.held()
                done = 0
                while not game.has_rung() and done < 4:
                    ahead = game.needed()
                    pattern = chance.choice(slow_patterns(table, hands))
                    felt = game.feel(pattern)
                    self.assertTrue(game.needed() is None or ahead is not None and game.needed() >= ahead)
                    held, amid = game.held(), game.needed()
                    setting = chance.choice(slow_faces(table, hands))
                    game.put(setting)
                    done += 1
                    self.assertEqual(game.held(), slow_left(table, wish, held, pattern, felt, setting))
                    if amid is None:
                        self.assertIsNone(game.needed())
                    else:
                        self.assertTrue(game.needed() is None or game.needed() >= amid - 1)
                    self.fits(table, wish, first, game)
                    if done < 3:
                        self.assertEqual(game.held(), last_orbits(table, wish, first, game.heard()))
                if game.has_rung():
                    self.assertGreaterEqual(done, due)

    def test_by_hand(self):
        game = OpenTable(RING_FOUR, ALIKE, hands=2)
        self.assertEqual(game.needed(), 5)
        self.assertEqual(game.best(), (0, 1))
        self.assertEqual(game.feel((1, 3)), (0, 1))
        self.assertEqual(game.amid(), ((1, 3), (0, 1)))
        # 0 at seat 1, 1 at seat 3: with 0 put at both, seats 0 and 2 have one 1 or two, or else it would be alike.
        game.put((0, 0))
        self.assertEqual(game.held(), (ONE, ACROSS))
        self.assertEqual(game.heard(), (("felt", (1, 3), (0, 1), (0, 0), False),))

    def test_a_band_is_shown_for_ever(self):
        chance = random.Random(3)
        for table, wish, hands in ((RING_FOUR, ALIKE, 1), (TURN_THREE, alike(TURN_THREE), 1), (PAIRS, PAIRS_WISH, 1)):
            game = OpenTable(table, wish, hands=hands)
            for _ in range(40):
                self.assertIsNone(game.needed())
                game.feel(chance.choice(slow_patterns(table, hands)))
                self.assertIsNone(game.needed())
                game.put(chance.choice(slow_faces(table, hands)))
            self.assertIs(game.has_rung(), False)
            self.fits(table, wish, tuple(slow_free(table, wish)), game)

    def test_more_hands_and_less_held_need_no_more(self):
        for table, wish in FEELING:
            for lot in tuples_of(slow_free(table, wish), 2):
                ahead = MUCH
                for hands in range(1, len(table[1][0]) + 1):
                    due = OpenTable(table, wish, hands=hands, lot=lot).needed()
                    self.assertLessEqual(MUCH if due is None else due, ahead)
                    ahead = MUCH if due is None else due
                    for orbit in lot:
                        less = OpenTable(table, wish, hands=hands, lot=(orbit,)).needed()
                        self.assertLessEqual(MUCH if less is None else less, ahead)


class Refusals(GameCase):
    def stays(self, game, error, value, call, *args):
        """The call is refused, and all that the open table tells stays as it was."""
        ahead = told_of(game)
        if error in (Rung, Untimely, OutOfPlace, Never):
            self.barred(error, call, *args)
        else:
            self.refused(error, value, call, *args)
        self.assertEqual(told_of(game), ahead)

    def test_untimely(self):
        blind = OpenTable(RING_FOUR, ALIKE, lets=((0, 1, 0, 1),))
        feeling = OpenTable(RING_FOUR, ALIKE, hands=2)
        for thing in ODD_THINGS + [(0, 0), (0, 1), (0, 0, 0, 0)]:
            self.stays(blind, Untimely, None, blind.feel, thing)
            self.stays(blind, Untimely, None, blind.put, thing)
            self.stays(feeling, Untimely, None, feeling.do, thing)
            self.stays(feeling, Untimely, None, feeling.put, thing)
        feeling.feel((0, 1))
        for thing in ODD_THINGS + [(0, 0), (0, 1), (0, 0, 0, 0)]:
            self.stays(feeling, Untimely, None, feeling.feel, thing)
            self.stays(feeling, Untimely, None, feeling.do, thing)
        feeling.put((0, 0))
        self.stays(feeling, Untimely, None, feeling.put, (0, 0))

    def test_rung(self):
        blind = OpenTable(RING_FOUR, ALIKE, lot=(ACROSS,))
        blind.do(ACROSS)
        feeling = OpenTable(RING_FOUR, ALIKE, hands=2, lot=(ACROSS,))
        feeling.feel((0, 2))
        feeling.put((1, 1))
        for game in (blind, feeling):
            self.assertIs(game.has_rung(), True)
            for thing in ODD_THINGS + [ACROSS, (0, 2), (1, 1)]:
                for call in (game.do, game.feel, game.put):
                    self.stays(game, Rung, None, call, thing)
            self.stays(game, Rung, None, game.best)

    def test_no_deed(self):
        every = OpenTable(RING_FOUR, ALIKE)
        some = OpenTable(RING_FOUR, ALIKE, lets=(ONE, ACROSS))
        none = OpenTable(RING_FOUR, ALIKE, lets=())
        for game in (every, some, none):
            for thing in ODD_THINGS + [(0, 0, 0), [0, 0, 0, 0], (), (0, 0, 0, 0, 0)]:
                self.stays(game, BadStand, None, game.do, thing)
            for thing, number in (((0, 0, 0, 2), 3), ((0, True, 0, 0), 1), ((-1, 0, 0, 0), 0), ((0, 0, None, 0), 2),
                                  ((0, 0, 0, 1.0), 3), ((0, "1", 0, 1), 1)):
                self.stays(game, BadStand, number, game.do, thing)
        for deed in ((0, 0, 0, 0), THREE, (1, 0, 1, 0)):
            self.stays(some, OutOfPlace, None, some.do, deed)
            self.stays(none, OutOfPlace, None, none.do, deed)
            every.do(deed)
        self.stays(none, Never, None, none.best)
        some.do(ONE)
        some.do(ACROSS)
        self.assertEqual([step[1] for step in some.heard()], [ONE, ACROSS])

    def test_no_pattern_and_no_setting(self):
        game = OpenTable(RING_FOUR, ALIKE, hands=2)
        for thing in ODD_THINGS + [(), [0, 1], {0: 1}]:
            number = 0 if isinstance(thing, tuple) and thing else None
            self.stays(game, BadPattern, number, game.feel, thing)
        for thing, number in (((1, 0), 1), ((0, 0), 1), ((0, 4), 1), ((True, 2), 0), ((0, 1, 1), 2), ((0, 1, 2, 3, 4), 4),
                              ((-1,), 0), ((0, 2, None), 2)):
            self.stays(game, BadPattern, number, game.feel, thing)
        for thing in ((0,), (0, 1, 2), (0, 1, 2, 3), (3,)):
            self.stays(game, BadPattern, None, game.feel, thing)
        game.feel((0, 1))
        for thing in ODD_THINGS + [(), (0,), (0, 0, 0), [0, 0]]:
            self.stays(game, BadFelt, None, game.put, thing)
        for thing, number in (((0, 2), 1), ((2, 0), 0), ((0, True), 1), ((None, 0), 0), ((0, -1), 1), (("0", 0), 0),
                              ((0, 0.0), 1)):
            self.stays(game, BadFelt, number, game.put, thing)
        game.put((0, 0))

    def test_never(self):
        game = OpenTable(TURN_THREE, alike(TURN_THREE), hands=1)
        self.stays(game, Never, None, game.best)
        game.feel((1,))
        self.stays(game, Never, None, game.best)
        blind = OpenTable(TURN_THREE, alike(TURN_THREE))
        self.stays(blind, Never, None, blind.best)

    def test_making_in_order(self):
        nine = tuple(slow_orbits(CALM_FOUR)[-1:])
        good = {"table": CALM_FOUR, "wish": nine, "lets": None, "hands": None, "lot": (ONE,)}
        bad = {"table": (BAD_TABLE, BadTable, "closed"), "wish": ((PAIR, ONE), BadWish, 1),
               "lets": ((PAIR, ONE), BadStand, 1), "hands": (5, BadPattern, None), "lot": (((1, 1, 1, 1),), BadLot, 0)}
        names = list(good)
        for choice in itertools.product((0, 1), repeat=5):
            more = {name: bad[name][0] if chosen else good[name] for name, chosen in zip(names, choice)}
            due = next((bad[name][1:] for name, chosen in zip(names, choice) if chosen), None)
            if choice[2] and choice[3] and not choice[0] and not choice[1]:
                self.barred(OutOfPlace, OpenTable, **more)
            elif due:
                self.refused(due[0], due[1], OpenTable, **more)
            else:
                self.barred(TooGreat, OpenTable, **more)
        self.barred(OutOfPlace, OpenTable, CALM_FOUR, nine, lets=(), hands=1)
        self.barred(TooGreat, OpenTable, CALM_FOUR, nine, hands=1, lot=())
        self.barred(TooGreat, OpenTable, CALM_FOUR, nine, lets=(), lot=())

    def test_making_of_anything(self):
        for thing in ODD_THINGS:
            number = 0 if isinstance(thing, tuple) else None
            self.refused(BadTable, None, OpenTable, thing, None)
            self.refused(BadWish, number, OpenTable, RING_FOUR, thing)
            if thing is not None:
                self.refused(BadStand, number, OpenTable, RING_FOUR, ALIKE, lets=thing)
                self.refused(BadLot, number, OpenTable, RING_FOUR, ALIKE, lot=thing)
                if type(thing) is not int or not 1 <= thing <= 4:
                    self.refused(BadPattern, None, OpenTable, RING_FOUR, ALIKE, hands=thing)
        self.refused(BadStand, 1, OpenTable, RING_FOUR, ALIKE, lets=(ONE, ONE))
        self.refused(BadLot, 1, OpenTable, RING_FOUR, ALIKE, lot=(PAIR, ONE))
        self.refused(BadLot, 0, OpenTable, RING_FOUR, ALIKE, lot=((0, 0, 0, 0),))
        for call in (lambda: OpenTable(RING_FOUR, ALIKE, None), lambda: OpenTable(RING_FOUR, ALIKE, None, 2)):
            self.assertRaises(TypeError, call)

    def test_too_great(self):
        orbits = slow_orbits(CALM_FOUR)
        self.assertIsNotNone(OpenTable(CALM_FOUR, tuple(orbits[12:])).needed())
        self.barred(TooGreat, OpenTable, CALM_FOUR, tuple(orbits[13:]))
        self.assertIsNotNone(OpenTable(CALM_FOUR, tuple(orbits[8:]), hands=1))
        self.barred(TooGreat, OpenTable, CALM_FOUR, tuple(orbits[9:]), hands=1)
        # Of more than 40 orbits in all, BLIND alone; of too many choices, FEELING alone.
        wide = (9, ring(2))
        self.barred(TooGreat, OpenTable, wide, tuple(slow_orbits(wide)[1:]))
        self.assertEqual(OpenTable(wide, tuple(slow_orbits(wide)[1:]), hands=1).needed(), 1)
        self.barred(TooGreat, OpenTable, wide, tuple(slow_orbits(wide)[1:]), hands=2)
        self.barred(TooGreat, OpenTable, RING_SIX, alike(RING_SIX), hands=1)
        self.assertIs(OpenTable(RING_SIX, alike(RING_SIX)).has_rung(), False)

    def test_what_is_told_and_handed_in_has_no_effect(self):
        lets = [ONE, ACROSS]
        game = OpenTable(RING_FOUR, ALIKE, lets=tuple(lets))
        lets.clear()
        game.do(ONE)
        again = told_of(game)
        for told in (game.held(), game.heard(), game.run()):
            self.assertIs(type(told), tuple)
        for told in (list(game.held()), list(game.heard()), list(game.run())):
            told.clear()
        self.assertEqual(told_of(game), again)
        other = OpenTable(RING_FOUR, ALIKE, lets=(ONE, ACROSS))
        self.assertEqual(other.heard(), ())
        other.do(ACROSS)
        self.assertEqual(told_of(game), again)

    def test_by_names(self):
        game = OpenTable(lot=(PAIR,), hands=2, wish=ALIKE, table=RING_FOUR)
        self.assertIn(game.feel(pattern=(0, 1)), slow_faces(RING_FOUR, 2))
        self.assertIsNone(game.put(setting=(0, 0)))
        blind = OpenTable(lets=(ACROSS,), lot=(ACROSS,), wish=ALIKE, table=RING_FOUR)
        self.assertIsNone(blind.do(deed=ACROSS))
        self.assertIs(blind.has_rung(), True)


if __name__ == "__main__":
    unittest.main()
