"""Numbers in texts: decimal, without leading zeros, of at most ten digits."""


def is_numeral(text):
    """True if a text is the text of an integer that is at least 0."""
    if not 1 <= len(text) <= 10 or not all("0" <= sign <= "9" for sign in text):
        return False
    return text == "0" or text[0] != "0"
