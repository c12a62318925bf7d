"""Finding signals: those of stretches that make wanted numbers, counted and told by an index.

The stretches are ascending and share no signals.
"""

from imagetones.stretches import cut_to_signals, number_of, signal_of
from imagetones.wanted import count_below, wanted_number


def count_along(stretch, wanted):
    """How many signals of one stretch make wanted numbers; None if there is no end of them."""
    low, end = _numbers_along(stretch)
    up_to_end = count_below(wanted, end)
    return None if up_to_end is None else up_to_end - count_below(wanted, low)


def signal_along(stretch, wanted, index):
    """The signal with an index among those of one stretch that make wanted numbers."""
    low, end = _numbers_along(stretch)
    if stretch[3] == 1:
        number = wanted_number(wanted, count_below(wanted, low) + index)
    else:
        number = wanted_number(wanted, count_below(wanted, end) - 1 - index)
    return signal_of(stretch, number)


def count_to(stretches, wanted, far):
    """How many of the signals from 0 to `far` make wanted numbers."""
    parts = [cut_to_signals(stretch, 0, far) for stretch in stretches]
    return sum([count_along(part, wanted) for part in parts if part is not None])


def signal_at(stretches, wanted, index):
    """The signal with an index among those that make wanted numbers, None if there are not so many."""
    left = index
    for stretch in stretches:
        many = count_along(stretch, wanted)
        if many is None or left < many:
            return signal_along(stretch, wanted, left)
        left -= many
    return None


def first_from(stretches, wanted, signal):
    """The least signal from this one on that makes a wanted number, None if there is none."""
    return signal_at(stretches, wanted, count_to(stretches, wanted, signal - 1))


def last_to(stretches, wanted, signal):
    """The greatest signal up to this one that makes a wanted number, None if there is none."""
    many = count_to(stretches, wanted, signal)
    return None if many == 0 else signal_at(stretches, wanted, many - 1)


def _numbers_along(stretch):
    """The least number that a stretch makes, and the end behind its greatest one (None: no end)."""
    least, greatest, number, _ = stretch
    if greatest is None:
        return (number, None)
    last = number_of(stretch, greatest)
    return (min(number, last), max(number, last) + 1)
