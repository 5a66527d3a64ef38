"""Where the bytes of packets tell the fields of their views; the other fields are specials of the machine."""

# For each field that bytes tell: the base, the offset and the number of its bytes.
FIELD_BYTES = {
    "kind": ("outer", 1, 1), "source": ("outer", 8, 2), "destination": ("outer", 10, 2),
    "sport": ("inner", 0, 2), "dport": ("inner", 2, 2), "flags": ("inner", 4, 1), "code": ("inner", 0, 2),
}

# For each field of an inner head, the kinds that have it, ascending; for all others it is 0.
FIELD_KINDS = {"sport": (6, 17), "dport": (6, 17), "flags": (6,), "code": (1,)}


def has_field(kind, field):
    """True if packets of a kind have a field."""
    return field not in FIELD_KINDS or kind in FIELD_KINDS[field]


def places_of(field, start):
    """The places that tell a field, where the inner head begins at a number; of two bytes, the greater one first."""
    if field not in FIELD_BYTES:
        return (("special", field),)
    base, offset, size = FIELD_BYTES[field]
    first = offset if base == "outer" else start + offset
    return tuple(("byte", number) for number in range(first, first + size))
