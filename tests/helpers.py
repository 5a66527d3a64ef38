"""What several tests use: odd values, values with one part spoilt, small sets of numbers."""


class Trap:
    """A value that must never be asked anything."""

    __hash__ = None

    def __eq__(self, other):
        raise RuntimeError("compared")

    def __lt__(self, other):
        raise RuntimeError("ordered")

    def __len__(self):
        raise RuntimeError("measured")

    def __iter__(self):
        raise RuntimeError("iterated")

    def __getitem__(self, at):
        raise RuntimeError("indexed")


def nested(item, depth, kind=tuple):
    """An item in so many tuples or lists, one around the other."""
    for _ in range(depth):
        item = kind([item])
    return item


def odd_values():
    """Values of many kinds, none of which has any of the forms of the document."""
    return [
        None, True, False, 0, 1, -1, 10 ** 30, 1.0, 0.5, float("nan"), 1j, "", "accept", "none", b"", b"\x00",
        bytearray(3), [], [(1, 2)], [()], {}, {1: 2}, {"a": ()}, set(), {1}, frozenset(), object(), object, Trap(),
        Trap, len, lambda: 0, range(3), Ellipsis, NotImplemented, iter(()), (None,), (True,), ([],), ({},), ((),),
        ("",), (b"",), (1.0,), (-1,), (-1, 2), (1, 2, -3), (Trap(),), (Trap(), Trap()), ((Trap(), Trap()),),
        (Trap(),) * 7, (Trap(),) * 9, (Trap(),) * 11, (None,) * 11, ((Trap(), Trap()),) * 11,
        nested(0, 200), nested((), 199), nested(0, 200, list), nested(nested(0, 99), 99, list), ((),) * 400,
    ]


def spoilt(value):
    """Values like a nested tuple of numbers and strings in which one part has another kind.

    Whatever the form of the tuple, none of them has it any more.
    """
    if isinstance(value, tuple):
        yield list(value)
        for k in range(len(value)):
            for other in spoilt(value[k]):
                yield value[:k] + (other,) + value[k + 1:]
    elif isinstance(value, str):
        yield value.encode()
        yield None
        yield (value,)
    elif isinstance(value, int):
        yield float(value)
        yield str(value)
        yield None
        yield (value,)
        if value in (0, 1):
            yield bool(value)


def resized(value):
    """Values like a tuple with an item less, one more, or none."""
    if value:
        yield value[:-1]
        yield value[1:]
        yield ()
    yield value + (0,)
    yield (0,) + value
    yield value + value[-1:] + value[-1:]


def numbers_of(a):
    """The members of a set as Python's own set."""
    return {number for low, high in a for number in range(low, high + 1)}


def set_from(numbers):
    """The set that has some numbers, found number by number."""
    found = []
    for number in sorted(numbers):
        if found and found[-1][1] == number - 1:
            found[-1] = (found[-1][0], number)
        else:
            found.append((number, number))
    return tuple(found)
