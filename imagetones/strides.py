"""Strides: which of the numbers 0, step, 2 * step and so on are in pieces.

The index of a number is how many steps it is away from 0.
"""


def count_strides(pieces, step, many):
    """How many of so many numbers are in the pieces."""
    total = 0
    for piece in pieces:
        low, high = _indexes_along(piece, step, many)
        total += _count_between(piece, step, low, high)
    return total


def first_stride(pieces, step, many):
    """The least index below `many` (None: any index) of a number in the pieces, None if there is none."""
    for piece in pieces:
        low, high = _indexes_along(piece, step, many)
        if _count_between(piece, step, low, high) > 0:
            return _first_between(piece, step, low, high)
    return None


def floor_sum(many, factor, shift, period):
    """The sum of (factor * index + shift) // period over the indexes from 0 to many - 1."""
    # The whole parts are taken out; what is left are the points of a grid below a line, which are
    # counted from the other side: so the factor and the period go down as in Euclid's algorithm.
    total = 0
    while many > 0:
        total += factor // period * (many * (many - 1) // 2) + shift // period * many
        factor, shift = factor % period, shift % period
        many, shift = divmod(factor * many + shift, period)
        factor, period = period, factor
    return total


def _indexes_along(piece, step, many):
    """The first and the last index below `many` of the numbers from the first to the last one of a piece."""
    first, last, _, period = piece
    low = -(-first // step)
    highs = [] if last is None else [last // step]
    if many is not None:
        highs.append(many - 1)
    # Without an end the remainders come again behind as many indexes as the period has numbers.
    return (low, min(highs, default=low + period - 1))


def _count_between(piece, step, low, high):
    """How many of the numbers with the indexes from low to high leave a remainder of the piece."""
    _, _, spans, period = piece
    if high < low:
        return 0
    # A number leaves a remainder from least to greatest if and only if the quotients of the number
    # less `least` and of the number less `greatest` + 1 differ by 1; otherwise they are the same.
    many, start = high - low + 1, low * step
    return sum([floor_sum(many, step, start - least, period) - floor_sum(many, step, start - greatest - 1, period)
                for least, greatest in spans])


def _first_between(piece, step, low, high):
    """The least index from low to high of a number with a remainder of the piece, of which there is one."""
    while low < high:
        middle = (low + high) // 2
        if _count_between(piece, step, low, middle) > 0:
            high = middle
        else:
            low = middle + 1
    return low
