"""Lots as numbers: a lot of worths is one number, worth W being the bit W - 1. So lots are met and joined at once."""

# How many bits each number from 0 to 63 has.
BITS_IN = (
    0, 1, 1, 2, 1, 2, 2, 3, 1, 2, 2, 3, 2, 3, 3, 4,
    1, 2, 2, 3, 2, 3, 3, 4, 2, 3, 3, 4, 3, 4, 4, 5,
    1, 2, 2, 3, 2, 3, 3, 4, 2, 3, 3, 4, 3, 4, 4, 5,
    2, 3, 3, 4, 3, 4, 4, 5, 3, 4, 4, 5, 4, 5, 5, 6,
)


def bits_of(lot):
    """The number of a lot of worths."""
    return sum(1 << (worth - 1) for worth in lot)


def worth_bit(worth):
    """The number of a lot with this worth alone."""
    return 1 << (worth - 1)


def sheet_bits(sheet):
    """The numbers of a sheet's lots."""
    return [bits_of(lot) for lot in sheet]


def begin_bits(kind, givens):
    """The numbers of the lots of the sheet with these givens: they stand alone, elsewhere all worths."""
    lots = [(1 << kind[2]) - 1] * (kind[0] * kind[1])
    for place, worth in givens:
        lots[place] = worth_bit(worth)
    return lots


def parts_of(bits):
    """The bits of a lot, each alone, ascending."""
    parts = []
    while bits:
        part = bits & -bits
        parts.append(part)
        bits = bits - part
    return parts


def lowest_worth(bits):
    """The least worth of a lot that is not void."""
    return (bits & -bits).bit_length()


def worths_in(bits):
    """The lot with this number."""
    return tuple([lowest_worth(part) for part in parts_of(bits)])


def sheet_of(lots):
    """The sheet whose lots have these numbers."""
    return tuple([worths_in(bits) for bits in lots])


def lowest_at(number):
    """Where the lowest bit of a number stands that is not 0."""
    return (number & -number).bit_length() - 1


def span_bits(low, high):
    """A number with the bits from LOW to HIGH."""
    return (1 << (high + 1)) - (1 << low)
