"""Pieces: numbers from 0 on (signals, or steps of a dial), told by stretches and remainders.

A piece is a tuple (first, last, spans, period): of the numbers from first to last
(None: without an end) those whose remainders by the period are in the spans. The
pieces of a list are ascending and share no numbers.
"""

from imagetones.spans import all_spans, common_spans, count_below, number_at, other_spans, spans_of, tone_spans
from imagetones.stretches import cut_to_numbers, signal_of


def period_of(rate):
    """The period of the pieces of a receiver with a rate."""
    return 1 if rate is None else rate


def heard_pieces(stretches, rate):
    """The pieces of all signals of the stretches."""
    period = period_of(rate)
    return [(stretch[0], stretch[1], all_spans(period), period) for stretch in stretches]


def band_pieces(stretches, rate, band):
    """The pieces of the signals of the stretches that have a tone in a band."""
    if rate is not None:
        return number_pieces(stretches, rate, tone_spans(band, rate))
    parts = [cut_to_numbers(stretch, band[0], band[1]) for stretch in stretches]
    return heard_pieces([part for part in parts if part is not None], None)


def number_pieces(stretches, rate, spans):
    """The pieces of the signals of the stretches that make numbers in the spans."""
    return [(stretch[0], stretch[1], _spans_along(stretch, rate, spans), rate) for stretch in stretches]


def _spans_along(stretch, rate, spans):
    ends = [(signal_of(stretch, low), signal_of(stretch, high)) for low, high in spans]
    return spans_of([(min(one, other), max(one, other)) for one, other in ends], rate)


def count_along(piece):
    """How many numbers a piece has; None if there is no end of them."""
    first, last, spans, period = piece
    if last is None:
        return None if spans else 0
    return count_below(spans, period, last + 1) - count_below(spans, period, first)


def place_along(piece, index):
    """The number with an index among those of a piece."""
    first, _, spans, period = piece
    return number_at(spans, period, count_below(spans, period, first) + index)


def count_to(pieces, far):
    """How many numbers up to `far` the pieces have."""
    many = 0
    for first, last, spans, period in pieces:
        if first <= far:
            end = far if last is None else min(last, far)
            many += count_along((first, end, spans, period))
    return many


def place_at(pieces, index):
    """The number with an index among those of the pieces, None if there are not so many."""
    left = index
    for piece in pieces:
        many = count_along(piece)
        if many is None or left < many:
            return place_along(piece, left)
        left -= many
    return None


def first_from(pieces, place):
    """The least number from this one on that the pieces have, None if there is none."""
    return place_at(pieces, count_to(pieces, place - 1))


def last_to(pieces, place):
    """The greatest number up to this one that the pieces have, None if there is none."""
    many = count_to(pieces, place)
    return None if many == 0 else place_at(pieces, many - 1)


def other_pieces(pieces, period):
    """The pieces of the numbers from 0 on that these pieces do not have."""
    others = []
    start = 0
    for first, last, spans, _ in pieces:
        if start < first:
            others.append((start, first - 1, all_spans(period), period))
        others.append((first, last, other_spans(spans, period), period))
        if last is None:
            return others
        start = last + 1
    others.append((start, None, all_spans(period), period))
    return others


def common_pieces(one, other):
    """The pieces of the numbers that are in two lists of pieces with one period."""
    common = []
    place = other_place = 0
    while place < len(one) and other_place < len(other):
        piece, mate = one[place], other[other_place]
        first = max(piece[0], mate[0])
        last = _nearer_end(piece[1], mate[1])
        spans = common_spans(piece[2], mate[2])
        if spans and (last is None or first <= last):
            common.append((first, last, spans, piece[3]))
        if last == piece[1]:
            place += 1
        else:
            other_place += 1
    return common


def _nearer_end(one, other):
    if one is None or other is None:
        return other if one is None else one
    return min(one, other)
