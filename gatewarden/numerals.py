"""Numbers in texts, decimal, without leading zeros, of at most ten digits, and items between blanks."""

from gatewarden.errors import BadText


def is_numeral(text):
    """True if a text is the text of an integer that is at least 0."""
    if not 1 <= len(text) <= 10 or not all("0" <= sign <= "9" for sign in text):
        return False
    return text == "0" or text[0] != "0"


def read_number(text):
    """The integer that has a text; BadText if there is none."""
    if not is_numeral(text):
        raise BadText("no number has this text")
    return int(text)


def read_numbers(items):
    """The list of the integers that have some texts; BadText if one of them has none."""
    return [read_number(item) for item in items]


def read_items(items):
    """The tuple of some texts, where integers stand for those that are the text of one."""
    return tuple(int(item) if is_numeral(item) else item for item in items)


def write_items(items):
    """The text of some numbers and words, separated by blanks."""
    return " ".join([str(item) for item in items])
