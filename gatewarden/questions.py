"""Questions about all histories (point 10.1)."""

from gatewarden.searching import searched


def _is_met(watch):
    """True if there is a history at which a watch comes true."""
    history, _ = searched(watch, True)
    return history is not None


def alike(first, second):
    """True if two rows have the same decisions for every history."""
    return not _is_met(("part", first, second))


def ever(row, conditions, decision):
    """True if some history ends with a sight that has all conditions and gets the decision."""
    return _is_met(("get", row, conditions, decision))


def breaks(old, new):
    """True if some history ends with a packet of a living talk that the new book breaks."""
    return _is_met(("break", old, new))


def shortest(watch):
    """The fewest sights of a history at whose last one a watch comes true, or None."""
    history, _ = searched(watch, False)
    return None if history is None else len(history)
