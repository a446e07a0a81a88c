"""OPEN TABLES: a late hand plays against the hands, and chooses as late as it can."""

from unseenturn.errors import BadPattern, Never, OutOfPlace, Rung, Untimely
from unseenturn.feeling import left_at, need_faces_at, need_hands, need_pattern, stands_felt
from unseenturn.hearings import first_by
from unseenturn.lots import Board, need_few_orbits
from unseenturn.plans import ENDLESS, Choosings, need_few_choices
from unseenturn.rows import lot_by, need_lets, need_told_lot, shortest_of
from unseenturn.tables import need_stand
from unseenturn.wishes import need_wish


def need_kind(table, lets, hands):
    """None, or the first refusal that is due of what makes an OPEN TABLE BLIND or FEELING."""
    if lets is not None and hands is not None:
        raise OutOfPlace("deeds are let where none feels, and hands feel where none is done")
    need_lets(table, lets)
    if hands is not None:
        need_hands(table, hands)


class OpenTable:
    """A TABLE at which a late hand plays: BLIND where no HANDS are told, else FEELING."""

    def __init__(self, table, wish, *, lets=None, hands=None, lot=None):
        need_wish(table, wish)
        need_kind(table, lets, hands)
        need_told_lot(table, wish, lot)
        self._board = Board(table, wish)
        if hands is None:
            need_few_orbits(self._board)
            self._choosings = None
        else:
            need_few_choices(self._board, hands)
            self._choosings = Choosings(self._board, hands)
        self._wish = wish
        self._lets = lets
        self._hands = hands
        self._first = lot_by(self._board, lot)
        self._lot = self._first
        self._pattern = None
        self._answer = None
        self._steps = []
        self._rows = {}

    def _need_unrung(self):
        """None, or Rung where the bell rang."""
        if not self._lot:
            raise Rung("the bell rang already")

    def _row(self):
        """The first of the shortest ROWS of let DEEDS that are SURE for what is held, None without one."""
        if self._lot not in self._rows:
            found = shortest_of(self._board, self._lets, self._lot)
            self._rows[self._lot] = None if found is None else found[0]
        return self._rows[self._lot]

    def _count(self):
        """How many deeds are NEEDED, ENDLESS where that is None."""
        if self._choosings is None:
            row = self._row()
            return ENDLESS if row is None else len(row)
        mask = self._board.mask(self._lot)
        if self._answer is None:
            return self._choosings.depth_at(mask)
        return 1 + self._choosings.least_left(self._answer, mask)

    def _hold(self, lot, step):
        """Hold the LOT that is left behind a deed, and keep what was heard of it."""
        self._steps.append(step + (not lot,))
        self._lot = lot
        self._pattern = None
        self._answer = None

    def do(self, deed):
        """Do a DEED blindly."""
        self._need_unrung()
        if self._choosings is not None:
            raise Untimely("hands feel at this table")
        need_stand(self._board.table, deed)
        if self._lets is not None and deed not in self._lets:
            raise OutOfPlace("this deed isn't let")
        self._hold(self._board.left(self._lot, deed), ("blind", deed))

    def feel(self, pattern):
        """What is felt at a PATTERN."""
        self._need_unrung()
        if self._choosings is None or self._answer is not None:
            raise Untimely("nothing is felt now")
        need_pattern(self._board.table, pattern)
        if len(pattern) != self._hands:
            raise BadPattern(None)
        mask = self._board.mask(self._lot)
        answers = [answer for answer in self._choosings.answers_at(pattern) if answer.lot & mask]
        # Of like ones the first is taken, and that has the least FELT.
        self._answer = max(answers, key=lambda told: self._choosings.least_left(told, mask))
        self._pattern = pattern
        return self._answer.felt

    def put(self, setting):
        """Put a SETTING where a PATTERN is felt."""
        self._need_unrung()
        if self._answer is None:
            raise Untimely("nothing is felt")
        need_faces_at(self._board.table, self._pattern, setting)
        felt = self._answer.felt
        stands = stands_felt(self._board, self._lot, self._pattern)[felt]
        left = left_at(self._board, stands, self._pattern, setting)
        self._hold(left, ("felt", self._pattern, felt, setting))

    def has_rung(self):
        """Whether the bell rang."""
        return not self._lot

    def held(self):
        """The LOT that the late hand holds."""
        return self._lot

    def needed(self):
        """How many deeds are NEEDED, None where none are enough."""
        found = self._count()
        return None if found >= ENDLESS else found

    def best(self):
        """The BEST that can be done now: a DEED, a PATTERN or a SETTING."""
        self._need_unrung()
        count = self._count()
        if count >= ENDLESS:
            raise Never("the bell can't surely be come to")
        if self._choosings is None:
            return self._row()[0]
        mask = self._board.mask(self._lot)
        if self._answer is None:
            # What a PATTERN does its SHAPE does, and that is the first one of its kind.
            return self._choosings.shape_by(mask, count - 1)
        return self._choosings.settings[self._choosings.setting_by(self._answer, mask, count - 1)]

    def amid(self):
        """The PATTERN that is felt and the FELT, None where none is."""
        return None if self._answer is None else (self._pattern, self._answer.felt)

    def heard(self):
        """The STEPS of all deeds that are done."""
        return tuple(self._steps)

    def run(self):
        """A RUN that begins in the LOT held at first and FITS what is HEARD."""
        if not self._first:
            return self._wish[0], ()
        return first_by(self._board, self._steps, self._first)
