"""The slopes of a receiver at a dial.

On both sides of a turn the numbers are the same, and so are the tones that the
sampler makes of them: no slope goes on beyond a turn. So each fold of the sampler
that has two or more numbers of a mixed slope makes one slope of the receiver.
"""

from imagetones.checks import check_dial, check_natural, check_receiver, check_signal
from imagetones.folds import first_fold_to, fold_ends, fold_way, last_fold_from
from imagetones.stages import behind_sampler
from imagetones.stretches import cut_to_numbers, cut_to_signals, stretches_at


def mixed_slopes(receiver, dial):
    """The ascending list of all slopes that the receiver would have without its sampler."""
    check_receiver(receiver)
    check_dial(dial)
    return [stretch for stretch in stretches_at(receiver[0], dial) if stretch[0] != stretch[1]]


def slopes_at(receiver, dial, signal):
    """The ascending list of the slopes that have this signal: none, one or two."""
    mixed = mixed_slopes(receiver, dial)
    check_signal(signal)
    rate = receiver[1]
    # Slopes share no more than their ends, so only the last two that begin up to here can reach it.
    many = _count_begun(mixed, rate, signal)
    last_two = [_nth_slope_of(mixed, rate, index) for index in range(max(0, many - 2), many)]
    return [slope for slope in last_two if slope[1] is None or slope[1] >= signal]


def count_slopes(receiver, dial, far):
    """How many slopes have a least signal from 0 to `far`."""
    mixed = mixed_slopes(receiver, dial)
    check_natural(far)
    return _count_begun(mixed, receiver[1], far)


def nth_slope(receiver, dial, index):
    """The slope with an index, from 0 on; None if there are not so many."""
    mixed = mixed_slopes(receiver, dial)
    check_natural(index)
    return _nth_slope_of(mixed, receiver[1], index)


def _count_begun(mixed, rate, far):
    many = 0
    for slope in mixed:
        # A slope that begins up to `far` has two signals up to the one behind `far`.
        part = cut_to_signals(slope, 0, far + 1)
        if part is not None and part[0] != part[1]:
            many += _count_made(part, rate)
    return many


def _nth_slope_of(mixed, rate, index):
    left = index
    for slope in mixed:
        many = _count_made(slope, rate)
        if many is None or left < many:
            return _made_slope(slope, rate, left)
        left -= many
    return None


def _count_made(slope, rate):
    """How many slopes the sampler makes of a mixed one, None if they have no end."""
    if rate is None:
        return 1
    first, last = _folds_along(slope, rate)
    return None if last is None else last - first + 1


def _made_slope(slope, rate, index):
    """The slope with an index among those that the sampler makes of a mixed one."""
    if rate is None:
        return slope
    first, last = _folds_along(slope, rate)
    fold = first + index if slope[3] == 1 else last - index
    low, high = fold_ends(rate, fold)
    least, greatest, number, way = cut_to_numbers(slope, low, high)
    return (least, greatest, behind_sampler(rate, number), way * fold_way(fold))


def _folds_along(slope, rate):
    """The first and the last fold with two or more numbers of a slope, None without a last one."""
    least, greatest, number, way = slope
    if greatest is None:
        return (first_fold_to(rate, number + 1), None)
    end = number + way * (greatest - least)
    first = first_fold_to(rate, min(number, end) + 1)
    last = last_fold_from(rate, max(number, end) - 1)
    return (first, last)
