"""How TURNINGS by themselves, and what is told beside them, are refused, of anything."""

from unseenturn.errors import BadTable, BadTurning, OutOfPlace, TooGreat
from unseenturn.tables import (
    MOST_FACES, MOST_SEATS, MOST_TURNINGS, are_closed, are_rising_orders, is_among, is_tuple_of, is_whole, wrong_seat)


def need_seats(thing):
    """None, or BadTable("seats") of what is no number of seats."""
    if not is_among(thing, 1, MOST_SEATS):
        raise BadTable("seats")


def need_faces(thing):
    """None, or BadTable("faces") of what is no number of FACES."""
    if not is_among(thing, 2, MOST_FACES):
        raise BadTable("faces")


def need_order(thing, least, most):
    """None, or BadTurning of what is no TURNING of least to most seats."""
    if not is_tuple_of(thing, least, most):
        raise BadTurning(None)
    number = wrong_seat(thing)
    if number < len(thing):
        raise BadTurning(number)


def need_any_order(thing):
    """None, or BadTurning of what is no TURNING of 1 to 8 seats."""
    need_order(thing, 1, MOST_SEATS)


def need_order_of(thing, many):
    """None, or BadTurning of what is no TURNING of just so many seats."""
    need_order(thing, many, many)


def need_turnings(thing):
    """None, or BadTable of what are no TURNINGS."""
    if not are_rising_orders(thing):
        raise BadTable("turnings")
    if not are_closed(thing):
        raise BadTable("closed")


def need_seat(many, thing):
    """None, or OutOfPlace of what is none of so many seats."""
    if not is_among(thing, 0, many - 1):
        raise OutOfPlace("no such seat")


def need_whole(thing):
    """None, or OutOfPlace of what is no whole number."""
    if not is_whole(thing):
        raise OutOfPlace("no whole number")


def need_few_turnings(many):
    """None, or TooGreat where there would be so many TURNINGS."""
    if many > MOST_TURNINGS:
        raise TooGreat("too many turnings")


def need_few_seats(many, most):
    """None, or TooGreat of so many seats where there may be most."""
    if many > most:
        raise TooGreat("too many seats")
