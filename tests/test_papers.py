"""Points 34 to 36: falls, layers and families, and the lookers that let them by or don't."""

import itertools
import unittest

from tests.helpers import (
    CALM_ONE, ODD_THINGS, SMALL_TABLES, SWAP, TURN_THREE, Case, closure, slow_behind, slow_free, slow_orbits, slow_stands)
from tests.test_rows import FORTY_TWO, SEVEN_DEEDS, few_lots, few_wishes
from unseenturn.errors import BadLot, BadPaper, BadRow, BadStand, BadTable, BadWish, NotSure, TooGreat
from unseenturn.papers import check_fall, check_family, check_layers, fall, family, layers
from unseenturn.rows import fewest, is_sure, least_row, sorts
from unseenturn.wishes import alike, noughts

BAD_TABLE = (2, ((1, 0),))
FOUR = (4, ((0,),))
RING_FOUR = (2, closure([(1, 2, 3, 0)], 4))
GREAT = (2, ((0, 1, 2, 3),))
A, B, C, D = (0, 0, 0, 1), (0, 0, 1, 1), (0, 1, 0, 1), (0, 1, 1, 1)


def searched_cases():
    """Tables, wishes, lets and lots among which rows are searched."""
    for table in [table for table in SMALL_TABLES if len(slow_orbits(table)) <= 13]:
        stands = slow_stands(table)
        for wish in few_wishes(table)[::2] + [alike(table)]:
            free = tuple(slow_free(table, wish))
            for lets in (None, (), tuple(stands[1:4]), tuple(stands[-3:])):
                for lot in (None, (), free[:1], free[-2:]):
                    yield table, wish, lets, lot


class Falls(Case):
    def test_by_hand(self):
        self.assertEqual(fall(FOUR, ((0,),), ((1,), (1,), (1,))), (((1,), (2,), (3,)), ((2,), (3,)), ((3,),), ()))
        self.assertEqual(fall(FOUR, ((0,),), (), lot=()), ((),))
        self.assertIsNone(check_fall(FOUR, ((0,),), ((1,), (1,), (1,)), (((1,), (2,), (3,)), ((2,), (3,)), ((3,),), ())))

    def test_what_is_told_is_let_by(self):
        for table in SMALL_TABLES[:8]:
            for wish in few_wishes(table):
                if len(slow_free(table, wish)) <= 12:
                    for lot in few_lots(table, wish) + [None]:
                        if fewest(table, wish, lot=lot) is not None:
                            row = least_row(table, wish, lot=lot)
                            for longer in (row, row + ((0,) * len(table[1][0]),)):
                                told = fall(table, wish, longer, lot=lot)
                                self.assertEqual(len(told), len(longer) + 1)
                                self.assertIsNone(check_fall(table, wish, longer, told, lot=lot))
                            if row:
                                self.barred(NotSure, fall, table, wish, row[:-1], lot=lot)

    def test_larger_lots_are_let_by(self):
        wish = alike(RING_FOUR)
        told = fall(RING_FOUR, wish, SEVEN_DEEDS)
        self.assertEqual(told, ((A, B, C, D), (A, B, D), (A, C, D), (A, D), (B, C), (B,), (C,), ()))
        for lot in ((A, B, C, D), (A,), (B, D), ()):
            self.assertIsNone(check_fall(RING_FOUR, wish, SEVEN_DEEDS, told, lot=lot))
        larger = ((B, C), (B,), (C,), ())
        self.assertIsNone(check_fall(RING_FOUR, wish, SEVEN_DEEDS[:3], larger, lot=(B,)))
        self.assertIsNone(check_fall(RING_FOUR, wish, SEVEN_DEEDS[:3], larger, lot=(C,)))
        self.assertIsNone(check_fall(RING_FOUR, wish, SEVEN_DEEDS[:3], ((C,), (B,), (C,), ()), lot=(C,)))
        self.assertIsNone(check_fall(RING_FOUR, wish, SEVEN_DEEDS[:3], ((), (B,), (C,), ()), lot=()))
        self.refused(BadPaper, 0, check_fall, RING_FOUR, wish, SEVEN_DEEDS[:3], larger)
        self.refused(BadPaper, 1, check_fall, RING_FOUR, wish, SEVEN_DEEDS[:3], ((B, C), (), (C,), ()), lot=(B,))
        self.refused(BadPaper, 1, check_fall, RING_FOUR, wish, SEVEN_DEEDS[:3], ((B, C), (A, C), (), ()), lot=(B,))
        self.refused(BadPaper, 1, check_fall, RING_FOUR, wish, SEVEN_DEEDS[:3], ((B, C), (A, C, D), (A, D), ()), lot=(B,))

    def test_no_other_row_has_any(self):
        # Every tuple of lots, of the right number, for rows that aren't sure.
        wish = ((0,),)
        lots = [tuple(lot) for many in range(4) for lot in itertools.combinations([(1,), (2,), (3,)], many)]
        for row in itertools.product([(1,), (2,)], repeat=2):
            for lot in lots:
                some = False
                for paper in itertools.product(lots, repeat=3):
                    good = set(lot) <= set(paper[0]) and paper[2] == () and all(
                        set(slow_behind(FOUR, wish, one, deed)) <= set(other)
                        for one, deed, other in zip(paper, row, paper[1:]))
                    if good:
                        self.assertIsNone(check_fall(FOUR, wish, row, paper, lot=lot))
                        some = True
                    else:
                        with self.assertRaises(BadPaper):
                            check_fall(FOUR, wish, row, paper, lot=lot)
                self.assertIs(some, is_sure(FOUR, wish, row, lot=lot))

    def test_no_tuple_of_as_many(self):
        row, paper = ((1,), (1,), (1,)), (((1,), (2,), (3,)), ((2,), (3,)), ((3,),), ())
        for thing in ODD_THINGS + [(), paper[:-1], paper + ((),), list(paper), paper[1:]]:
            self.refused(BadPaper, None, check_fall, FOUR, ((0,),), row, thing)
        self.refused(BadPaper, None, check_fall, FOUR, ((0,),), (), (), lot=())

    def test_each_place(self):
        row, paper = ((1,), (1,), (1,)), (((1,), (2,), (3,)), ((2,), (3,)), ((3,),), ())
        bad = [None, True, 0, [], [(1,)], {(1,)}, "1", ((0,),), ((1,), (1,)), ((3,), (2,)), ((4,),), ((True,),), ([1],), (1,)]
        for place in range(4):
            for thing in bad:
                told = paper[:place] + (thing,) + paper[place + 1:]
                self.refused(BadPaper, place, check_fall, FOUR, ((0,),), row, told)
                told = paper[:place] + (thing,) + (None,) * (3 - place)
                self.refused(BadPaper, place, check_fall, FOUR, ((0,),), row, told)
        self.refused(BadPaper, 0, check_fall, FOUR, ((0,),), row, (((1,), (2,)),) + paper[1:])
        self.refused(BadPaper, 1, check_fall, FOUR, ((0,),), row, (paper[0], ((2,),)) + paper[2:])
        self.refused(BadPaper, 2, check_fall, FOUR, ((0,),), row, paper[:2] + ((), ()))
        self.refused(BadPaper, 3, check_fall, FOUR, ((0,),), row, paper[:3] + (((3,),),))
        self.refused(BadPaper, 3, check_fall, FOUR, ((0,),), row, (((1,), (2,), (3,)),) * 4)
        self.refused(BadPaper, 0, check_fall, FOUR, ((0,),), (), (((1,),),), lot=())
        self.refused(BadPaper, 0, check_fall, FOUR, ((0,),), (), ((),), lot=((1,),))
        self.assertIsNone(check_fall(FOUR, ((0,),), (), ((),), lot=()))

    def test_refusals_in_order(self):
        for call, args in ((fall, ()), (check_fall, (None,))):
            for bad, place in ((BAD_TABLE, "closed"), (None, None)):
                self.refused(BadTable, place, call, bad, None, None, *args, lot=0)
            self.refused(BadWish, None, call, SWAP, (), None, *args, lot=0)
            self.refused(BadWish, 0, call, SWAP, ((1, 0),), None, *args, lot=0)
            self.refused(BadRow, None, call, SWAP, ((0, 0),), None, *args, lot=0)
            self.refused(BadRow, 1, call, SWAP, ((0, 0),), ((0, 0), (0, 3)), *args, lot=0)
            self.refused(BadLot, None, call, SWAP, ((0, 0),), (), *args, lot=0)
            self.refused(BadLot, 0, call, SWAP, ((0, 0),), (), *args, lot=((0, 0),))
        self.barred(NotSure, fall, SWAP, ((0, 0),), ())

    def test_by_names(self):
        self.assertEqual(fall(table=FOUR, wish=((0,),), row=((2,),), lot=((2,),)), (((2,),), ()))
        self.assertIsNone(check_fall(table=FOUR, wish=((0,),), row=((2,),), paper=(((2,),), ()), lot=((2,),)))


class Layers(Case):
    def test_what_is_told_is_let_by(self):
        for table, wish, lets, lot in searched_cases():
            least = fewest(table, wish, lets=lets, lot=lot)
            for many in (0, 1, 2, 5):
                told = layers(table, wish, many, lets=lets, lot=lot)
                if least is not None and least <= many:
                    self.assertIsNone(told)
                else:
                    self.assertEqual(len(told), many + 1)
                    self.assertEqual(check_layers(table, wish, told, lets=lets, lot=lot), many)
                    self.assertEqual(layers(table, wish, many, lets=lets, lot=lot), told)

    def test_below_fewest_and_from_there_on(self):
        wish = alike(RING_FOUR)
        for many in range(7):
            told = layers(RING_FOUR, wish, many)
            self.assertEqual(check_layers(RING_FOUR, wish, told), many)
        for many in (7, 8, 60):
            self.assertIsNone(layers(RING_FOUR, wish, many))
        table = (2, closure([(1, 2, 3, 4, 0)], 5))
        for many in (0, 1, 15, 60):
            self.assertEqual(check_layers(table, alike(table), layers(table, alike(table), many)), many)
        self.assertIsNone(layers(FOUR, ((0,),), 0, lot=()))
        self.assertIsNone(layers(FOUR, ((0,),), 0, lets=(), lot=()))

    def test_more_layers_than_are_told_may_be_looked_at(self):
        line = (((1,), (3,)), (0,))
        paper = ((line,),) * 70 + (((line[0], ()),),)
        self.assertEqual(check_layers(FOUR, ((0,),), paper, lets=((2,),)), 70)

    def test_by_hand(self):
        # By the deed 2 alone, 1 becomes 3, 3 becomes 1.
        one, three = (1,), (3,)
        self.assertEqual(check_layers(FOUR, ((0,),), ((((one,), ()),),)), 0)
        paper = ((((one,), (0,)),), (((one,), (1,)), ((three,), (0,))), (((one,), ()), ((three,), ())))
        self.refused(BadPaper, (0, 0), check_layers, FOUR, ((0,),), paper, lets=((2,),))
        paper = ((((one,), (1,)),), (((one,), (1,)), ((three,), (0,))), (((one,), ()), ((three,), ())))
        self.assertEqual(check_layers(FOUR, ((0,),), paper, lets=((2,),)), 2)
        self.assertEqual(check_layers(FOUR, ((0,),), paper, lets=((2,),), lot=(one,)), 2)
        self.assertEqual(check_layers(FOUR, ((0,),), paper, lets=((2,),), lot=(one, (2,))), 2)
        self.refused(BadPaper, (0, 0), check_layers, FOUR, ((0,),), paper, lets=((2,),), lot=(three,))
        self.refused(BadPaper, (0, 0), check_layers, FOUR, ((0,),), paper, lets=((2,),), lot=())
        self.refused(BadPaper, (0, 0), check_layers, FOUR, ((0,),), paper, lets=((1,),))
        self.refused(BadPaper, (0, 0), check_layers, FOUR, ((0,),), paper)
        self.refused(BadPaper, (0, 0), check_layers, FOUR, ((0,),), paper, lets=())
        self.assertEqual(check_layers(FOUR, ((0,),), ((((one,), ()),),) * 3, lets=()), 2)

    def test_no_tuple_of_layers(self):
        line = (((1,),), ())
        for thing in [None, True, 0, "", [], [(line,)], {}, {(line,)}, (), ((),), ([line],), (None,), ((line,), ()),
                      ((line,), [line]), ((line,), None), (1,), ("",)]:
            self.refused(BadPaper, None, check_layers, FOUR, ((0,),), thing)

    def test_lines_by_their_form(self):
        wish, lets = ((0,),), ((2,), (3,))
        good, last = (((1,), (2,), (3,)), (0, 0)), (((1,),), ())
        bad_lots = [None, True, 0, (), [], [(1,)], ((0,),), ((1,), (1,)), ((2,), (1,)), ((4,),), ((True,),), (1,), "1"]
        lines = ODD_THINGS + [(), (((1,),),), list(good), good + (1,)] + [(lot, (0, 0)) for lot in bad_lots]
        numbers = [None, 0, "", [0, 0], (), (0,), (0, 0, 0), (0, -1), (-1, 0), (True, 0), (0, False), (0, None), (0, 1.0),
                   ("0", 0), ((0,), 0)]
        lines += [(((1,),), told) for told in numbers]
        for line in lines:
            # What isn't so, ahead and behind, is told only where all are LINES by their form.
            self.refused(BadPaper, (0, 0), check_layers, FOUR, wish, ((line,), (last,)), lets=lets)
            self.refused(BadPaper, (0, 1), check_layers, FOUR, wish, (((((1,),), (9, 9)), line), (last,)), lets=lets)
            self.refused(BadPaper, (1, 0), check_layers, FOUR, wish, ((good, good), (line, line), (last,)), lets=lets)
            self.refused(BadPaper, (1, 2), check_layers, FOUR, wish, ((good,), (good, good, line), (None,)), lets=lets)
        for line in [(lot, ()) for lot in bad_lots] + [(((1,),), told) for told in numbers if told != ()]:
            self.refused(BadPaper, (1, 0), check_layers, FOUR, wish, ((good,), (line,)), lets=lets)
            self.refused(BadPaper, (1, 1), check_layers, FOUR, wish, ((good,), (last, line, None)), lets=lets)
            self.refused(BadPaper, (0, 0), check_layers, FOUR, wish, ((line,),), lets=lets)
        self.refused(BadPaper, (0, 0), check_layers, FOUR, wish, ((last,), (last,)), lets=lets)

    def test_what_is_not_so(self):
        wish, lets = ((0,),), ((2,), (3,))
        # By 2: 1 and 3 change places; by 3: 1 is gone, 2 becomes 1, 3 becomes 2.
        whole = ((1,), (2,), (3,))
        paper = (((whole, (1, 0)),), ((((1,), (2,)), (1, 0)), (((1,), (3,)), (0, 1))),
                 ((((1,),), ()), (((2,),), ()), (((3,),), ())))
        self.refused(BadPaper, (1, 0), check_layers, FOUR, wish, paper, lets=lets)
        second = ((((1,), (2,)), (2, 0)), (((1,), (3,)), (0, 1)))
        paper = paper[:1] + (second,) + paper[2:]
        self.assertEqual(check_layers(FOUR, wish, paper, lets=lets), 2)
        # A number with no LINE in the next layer.
        for numbers, place in (((3, 0), (1, 0)), ((10 ** 30, 0), (1, 0)), ((2, 3), (1, 0))):
            told = paper[:1] + ((((1,), (2,)), numbers), second[1])
            self.refused(BadPaper, place, check_layers, FOUR, wish, (paper[0], told[1:], paper[2]), lets=lets)
        # A LOT that isn't within what is left.
        self.refused(BadPaper, (1, 1), check_layers, FOUR, wish,
                     (paper[0], (second[0], (((1,), (3,)), (0, 0))), paper[2]), lets=lets)
        self.refused(BadPaper, (1, 1), check_layers, FOUR, wish,
                     (paper[0], (second[0], (((1,), (3,)), (1, 1))), paper[2]), lets=lets)
        self.refused(BadPaper, (0, 0), check_layers, FOUR, wish, (((whole, (1, 2)),),) + paper[1:], lets=lets)
        # The first that isn't so; the first LOT that isn't within the told one.
        self.refused(BadPaper, (0, 0), check_layers, FOUR, wish, paper, lets=lets, lot=((1,), (3,)))
        self.refused(BadPaper, (0, 0), check_layers, FOUR, wish, (paper[0], (second[0], (((1,), (3,)), (0, 0))), paper[2]),
                     lets=lets, lot=((1,), (2,)))

    def test_only_the_first_lot_has_to_be_within(self):
        wish, lets = ((0,),), ((2,),)
        paper = (((((1,),), (0,)), (((3,),), (1,))), ((((3,),), ()), (((1,),), ())))
        self.assertEqual(check_layers(FOUR, wish, paper, lets=lets, lot=((1,),)), 1)
        self.assertEqual(check_layers(FOUR, wish, paper, lets=lets, lot=((1,), (2,))), 1)
        self.refused(BadPaper, (0, 0), check_layers, FOUR, wish, paper, lets=lets, lot=((3,),))

    def test_altered_papers(self):
        wish = alike(RING_FOUR)
        told = layers(RING_FOUR, wish, 4)
        for number, layer in enumerate(told[:-1]):
            for place, (lot, numbers) in enumerate(layer):
                for at in range(len(numbers)):
                    for other in range(len(told[number + 1]) + 1):
                        altered = numbers[:at] + (other,) + numbers[at + 1:]
                        line = (lot, altered)
                        paper = told[:number] + (layer[:place] + (line,) + layer[place + 1:],) + told[number + 1:]
                        left = slow_behind(RING_FOUR, wish, lot, sorts(RING_FOUR)[at])
                        if other < len(told[number + 1]) and set(told[number + 1][other][0]) <= set(left):
                            self.assertEqual(check_layers(RING_FOUR, wish, paper), 4)
                        else:
                            self.refused(BadPaper, (number, place), check_layers, RING_FOUR, wish, paper)

    def test_no_many(self):
        for thing in (-1, 61, True, False, None, "3", 3.0, (3,), [3], 10 ** 30):
            self.refused(BadRow, None, layers, FOUR, ((0,),), thing)
            self.refused(BadRow, None, layers, FOUR, ((0,),), thing, lets=0, lot=0)
            self.refused(BadRow, None, layers, GREAT, noughts(GREAT), thing)
        self.assertEqual(len(layers(FOUR, ((0,),), 60, lets=((2,),))), 61)

    def test_refusals_in_order(self):
        for call, arg in ((layers, None), (check_layers, None)):
            self.refused(BadTable, "closed", call, BAD_TABLE, None, arg, lets=0, lot=0)
            self.refused(BadWish, None, call, SWAP, (), arg, lets=0, lot=0)
            self.refused(BadWish, 0, call, SWAP, ((1, 0),), arg, lets=0, lot=0)
        for call, arg in ((layers, 3), (check_layers, None)):
            self.refused(BadStand, None, call, SWAP, ((0, 0),), arg, lets=0, lot=0)
            self.refused(BadStand, 1, call, SWAP, ((0, 0),), arg, lets=((0, 1), (0, 1)), lot=0)
            self.refused(BadLot, None, call, SWAP, ((0, 0),), arg, lot=0)
            self.refused(BadLot, 0, call, SWAP, ((0, 0),), arg, lot=((0, 0),))
        self.refused(BadLot, 0, layers, GREAT, noughts(GREAT), 0, lot=noughts(GREAT))
        self.barred(TooGreat, layers, GREAT, noughts(GREAT), 0)
        self.barred(TooGreat, layers, FORTY_TWO, tuple(slow_orbits(FORTY_TWO)), 0)

    def test_a_looker_has_no_such_bound(self):
        lot = tuple(slow_free(GREAT, noughts(GREAT)))
        self.assertEqual(check_layers(GREAT, noughts(GREAT), (((lot, ()),),)), 0)
        self.assertEqual(check_layers(GREAT, noughts(GREAT), (((lot[:1], (0,)),), ((lot[:1], ()),)), lets=((0,) * 4,)), 1)

    def test_by_names(self):
        told = layers(table=FOUR, wish=((0,),), many=1, lets=((2,),), lot=((1,),))
        self.assertEqual(told, (((((1,),), (0,)),), ((((3,),), ()),)))
        self.assertEqual(check_layers(table=FOUR, wish=((0,),), paper=told, lets=((2,),), lot=((1,),)), 1)


class Families(Case):
    def test_what_is_told_is_let_by(self):
        for table, wish, lets, lot in searched_cases():
            told = family(table, wish, lets=lets, lot=lot)
            self.assertIs(told is None, fewest(table, wish, lets=lets, lot=lot) is not None)
            if told is not None:
                self.assertIsNone(check_family(table, wish, told, lets=lets, lot=lot))
                self.assertIsNone(check_family(table, wish, told, lets=lets))
                self.assertEqual(family(table, wish, lets=lets, lot=lot), told)

    def test_by_hand(self):
        wish, lets = ((0,),), ((2,),)
        one, three = (1,), (3,)
        paper = (((one,), (1,)), ((three,), (0,)))
        self.assertIsNone(check_family(FOUR, wish, paper, lets=lets))
        self.assertIsNone(check_family(FOUR, wish, paper, lets=lets, lot=(one,)))
        self.refused(BadPaper, 0, check_family, FOUR, wish, paper, lets=lets, lot=(three,))
        self.refused(BadPaper, 0, check_family, FOUR, wish, paper, lets=lets, lot=())
        self.refused(BadPaper, 0, check_family, FOUR, wish, (((one,), (0,)), ((three,), (0,))), lets=lets)
        self.refused(BadPaper, 1, check_family, FOUR, wish, (((one,), (1,)), ((three,), (1,))), lets=lets)
        self.refused(BadPaper, 1, check_family, FOUR, wish, (((one,), (1,)), ((three,), (2,))), lets=lets)
        self.refused(BadPaper, 0, check_family, FOUR, wish, (((one,), (10 ** 30,)), ((three,), (2,))), lets=lets)
        self.assertIsNone(check_family(FOUR, wish, (((one, three), (0,)),), lets=lets))
        self.assertIsNone(check_family(FOUR, wish, (((one, three), (0,)),), lets=lets, lot=(one, (2,), three)))
        self.refused(BadPaper, 1, check_family, FOUR, wish, (((one, three), (0,)), ((one, (2,)), (0,))), lets=lets)
        self.assertIsNone(check_family(FOUR, wish, (((one,), ()),), lets=()))
        self.assertIsNone(check_family(TURN_THREE, noughts(TURN_THREE), family(TURN_THREE, noughts(TURN_THREE))))
        self.assertIsNone(family(RING_FOUR, alike(RING_FOUR)))
        self.assertIsNone(family(FOUR, wish, lets=lets, lot=()))
        self.assertIsNone(family(FOUR, wish, lets=lets, lot=((2,),)))
        self.assertIsNone(family(CALM_ONE, ((0,), (1,))))

    def test_no_tuple_of_one_thing_or_more(self):
        for thing in [None, True, 0, "", [], [(((1,),), (0,))], {}, {1}, range(2), ()]:
            self.refused(BadPaper, None, check_family, FOUR, ((0,),), thing, lets=((2,),))

    def test_lines_by_their_form(self):
        wish, lets = ((0,),), ((2,), (3,))
        good = (((1,), (2,), (3,)), (0, 0))
        bad_lots = [None, True, 0, (), [], [(1,)], ((0,),), ((1,), (1,)), ((2,), (1,)), ((4,),), ((True,),), (1,), "1"]
        lines = ODD_THINGS + [(), (((1,),),), list(good), good + (1,)] + [(lot, (0, 0)) for lot in bad_lots]
        lines += [(((1,),), told) for told in [None, 0, "", [0, 0], (), (0,), (0, 0, 0), (0, -1), (-1, 0), (True, 0),
                                               (0, False), (0, None), (0, 1.0), ("0", 0), ((0,), 0)]]
        for line in lines:
            self.refused(BadPaper, 0, check_family, FOUR, wish, (line,), lets=lets)
            self.refused(BadPaper, 1, check_family, FOUR, wish, (good, line, None), lets=lets)
            self.refused(BadPaper, 2, check_family, FOUR, wish, ((((1,),), (9, 9)), good, line), lets=lets, lot=())

    def test_altered_papers(self):
        wish = noughts(TURN_THREE)
        told = family(TURN_THREE, wish)
        for place, (lot, numbers) in enumerate(told):
            for at in range(len(numbers)):
                for other in range(len(told) + 1):
                    line = (lot, numbers[:at] + (other,) + numbers[at + 1:])
                    paper = told[:place] + (line,) + told[place + 1:]
                    left = slow_behind(TURN_THREE, wish, lot, sorts(TURN_THREE)[at])
                    if other < len(told) and set(told[other][0]) <= set(left):
                        self.assertIsNone(check_family(TURN_THREE, wish, paper))
                    else:
                        self.refused(BadPaper, place, check_family, TURN_THREE, wish, paper)

    def test_refusals_in_order(self):
        for call, args in ((family, ()), (check_family, (None,))):
            self.refused(BadTable, "closed", call, BAD_TABLE, None, *args, lets=0, lot=0)
            self.refused(BadTable, None, call, None, None, *args, lets=0, lot=0)
            self.refused(BadWish, None, call, SWAP, (), *args, lets=0, lot=0)
            self.refused(BadWish, 0, call, SWAP, ((1, 0),), *args, lets=0, lot=0)
            self.refused(BadStand, None, call, SWAP, ((0, 0),), *args, lets=0, lot=0)
            self.refused(BadStand, 1, call, SWAP, ((0, 0),), *args, lets=((0, 1), (0, 1)), lot=0)
            self.refused(BadLot, None, call, SWAP, ((0, 0),), *args, lot=0)
            self.refused(BadLot, 0, call, SWAP, ((0, 0),), *args, lot=((0, 0),))
        self.refused(BadLot, 0, family, GREAT, noughts(GREAT), lot=noughts(GREAT))
        self.barred(TooGreat, family, GREAT, noughts(GREAT))
        self.barred(TooGreat, family, FORTY_TWO, tuple(slow_orbits(FORTY_TWO)), lets=(), lot=())

    def test_a_looker_has_no_such_bound(self):
        lot = tuple(slow_free(GREAT, noughts(GREAT)))
        self.assertIsNone(check_family(GREAT, noughts(GREAT), ((lot, (0,)),), lets=((0,) * 4,)))

    def test_by_names(self):
        told = family(table=FOUR, wish=((0,),), lets=((2,),), lot=((1,),))
        self.assertIsNone(check_family(table=FOUR, wish=((0,),), paper=told, lets=((2,),), lot=((1,),)))

    def test_stars(self):
        for call, args in ((fall, (FOUR, ((0,),), ())), (check_fall, (FOUR, ((0,),), (), None)), (family, (FOUR, ((0,),))),
                           (layers, (FOUR, ((0,),), 0)), (check_layers, (FOUR, ((0,),), None)),
                           (check_family, (FOUR, ((0,),), None))):
            with self.assertRaises(TypeError):
                call(*args, ())


if __name__ == "__main__":
    unittest.main()
