"""Tests of the form of values of which nothing is known.

They ask for the very kind of a value, so that True and False are no integers and no
method of a foreign class is ever run.
"""


def is_number(value, low, high):
    """True if a value is an integer from low to high."""
    return type(value) == int and low <= value <= high


def is_tuple(value, count):
    """True if a value is a tuple of so many items."""
    return type(value) == tuple and len(value) == count


def first_text(value):
    """The string with which a value begins as a tuple, and otherwise an empty one."""
    if type(value) == tuple and value != () and type(value[0]) == str:
        return value[0]
    return ""


def is_ascending(items):
    """True if the items of a list or tuple, all of one form, are strictly ascending."""
    return all(items[k] < items[k + 1] for k in range(len(items) - 1))


def is_word(value):
    """True if a value is a string of 1 to 12 letters from a to z."""
    return type(value) == str and 1 <= len(value) <= 12 and all("a" <= sign <= "z" for sign in value)
