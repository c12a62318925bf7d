"""The dials at which two signals clash: both are heard, and with one tone."""

from imagetones.checks import check_dial, check_dial_stage, check_order, check_receiver, check_signal
from imagetones.lines import dial_line
from imagetones.pieces import count_to, first_from, period_of
from imagetones.spans import all_spans, spans_of
from imagetones.together import side_by_side


def next_clash(receiver, one, other, dial):
    """The least dial from this one on at which two signals clash, None if there is none."""
    _check_two(receiver, one, other)
    check_dial(dial)
    check_dial_stage(receiver)
    steps = first_from(_clashes_from(receiver, one, other, dial), 0)
    return None if steps is None else dial + steps


def count_clashes(receiver, one, other, least, greatest):
    """At how many of the dials from `least` to `greatest` two signals clash."""
    _check_two(receiver, one, other)
    check_dial(least)
    check_dial(greatest)
    check_order(least, greatest)
    check_dial_stage(receiver)
    return count_to(_clashes_from(receiver, one, other, least), greatest - least)


def _check_two(receiver, one, other):
    check_receiver(receiver)
    check_signal(one)
    check_signal(other)


def _clashes_from(receiver, one, other, dial):
    """The pieces of the steps of 1 up from a dial at which two signals clash."""
    lines = [dial_line(receiver, signal, dial, 1) for signal in (one, other)]
    pieces = []
    for first, last, parts in side_by_side(lines, 0):
        if parts[0] is not None and parts[1] is not None:
            pieces.extend(_clashes_along(first, last, parts, receiver[1]))
    return pieces


def _clashes_along(first, last, parts, rate):
    """The pieces of the steps of a row, along which the numbers of both parts go on without a turn.

    So the two numbers, each times its way, stay equally far apart, and the sum of them
    goes up by 2 at each step. The tones are equal where the one or the other is 0, or,
    with a sampler, a multiple of the rate.
    """
    (_, _, number, way), (_, _, other_number, other_way) = parts
    apart = number * way - other_number * other_way
    missing = -(number * way + other_number * other_way)
    period = period_of(rate)
    if apart == 0 or (rate is not None and apart % rate == 0):
        return [(first, last, all_spans(period), period)]
    if rate is not None:
        places = [first + half for half in _halves(missing, rate)]
        return [(first, last, spans_of([(place, place) for place in places], rate), rate)]
    # Without a sampler the sum counts only where the numbers go different ways, as they are not below 0.
    meeting = first + missing // 2
    is_met = way != other_way and missing % 2 == 0 and meeting >= first and (last is None or meeting <= last)
    return [(meeting, meeting, all_spans(period), period)] if is_met else []


def _halves(number, rate):
    """The remainders by the rate that leave, doubled, the remainder of a number."""
    return [twice // 2 for twice in (number % rate, number % rate + rate) if twice % 2 == 0]
