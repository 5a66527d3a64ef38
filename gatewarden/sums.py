"""Byte rows and their sums (point 2.1)."""

from gatewarden.shapes import is_number


def is_byte_row(value):
    """True if any value is a byte row."""
    return type(value) == tuple and all(is_number(item, 0, 255) for item in value)


def words_of(row):
    """The words of a byte row."""
    even = row if len(row) % 2 == 0 else (*row, 0)
    return [256 * even[k] + even[k + 1] for k in range(0, len(even), 2)]


def folded(words):
    """0 for zeros alone, and otherwise what is left of the sum by 65535, from 1 to 65535."""
    total = sum(words)
    if total == 0:
        return 0
    return (total - 1) % 65535 + 1


def sum_of(row):
    """The sum of a byte row."""
    return 65535 - folded(words_of(row))


def mended(check, old, new):
    """The sum of a row in which a word is changed from old to new, told from its sum before."""
    return 65535 - folded([65535 - check, 65535 - old, new])
