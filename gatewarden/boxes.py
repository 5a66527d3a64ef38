"""Boxes of views (point 5.1)."""

from gatewarden.shapes import is_number, is_tuple
from gatewarden.views import FIELDS, TOPS


def is_box(value):
    """True if any value is a box."""
    if not is_tuple(value, len(FIELDS)):
        return False
    return all(_is_range(value[k], TOPS[k]) for k in range(len(FIELDS)))


def _is_range(value, top):
    """True if a value is a pair of a low and a high from 0 to the top."""
    return is_tuple(value, 2) and is_number(value[1], 0, top) and is_number(value[0], 0, value[1])


def in_box(box, view):
    """True if a box holds a tuple of eleven integers."""
    return all(box[k][0] <= view[k] <= box[k][1] for k in range(len(FIELDS)))


def whole_box():
    """The box of all."""
    return tuple((0, top) for top in TOPS)


def box_of(view):
    """The box that holds a view alone."""
    return tuple((number, number) for number in view)


def halves(ranges, k, at):
    """The ranges in which the high of the one with the number k is at - 1, and those in which its low is at."""
    low, high = ranges[k]
    return (*ranges[:k], (low, at - 1), *ranges[k + 1:]), (*ranges[:k], (at, high), *ranges[k + 1:])
