"""The signals that are heard in a band at a dial."""

from imagetones.checks import check_band, check_dial, check_natural, check_receiver, check_signal
from imagetones.finding import count_to, first_from, last_to, signal_at
from imagetones.stretches import parted_stretches
from imagetones.wanted import wanted_numbers


def next_heard(receiver, dial, band, signal):
    """The least signal from this one on that is heard in the band, None if there is none."""
    _check_place(receiver, dial, band)
    check_signal(signal)
    return first_from(parted_stretches(receiver[0], dial), wanted_numbers(band, receiver[1]), signal)


def last_heard(receiver, dial, band, signal):
    """The greatest signal up to this one that is heard in the band, None if there is none."""
    _check_place(receiver, dial, band)
    check_signal(signal)
    return last_to(parted_stretches(receiver[0], dial), wanted_numbers(band, receiver[1]), signal)


def count_heard(receiver, dial, band, far):
    """How many of the signals from 0 to `far` are heard in the band."""
    _check_place(receiver, dial, band)
    check_natural(far)
    return count_to(parted_stretches(receiver[0], dial), wanted_numbers(band, receiver[1]), far)


def nth_heard(receiver, dial, band, index):
    """The signal with an index, from 0 on, of those heard in the band; None if there are not so many."""
    _check_place(receiver, dial, band)
    check_natural(index)
    return signal_at(parted_stretches(receiver[0], dial), wanted_numbers(band, receiver[1]), index)


def _check_place(receiver, dial, band):
    check_receiver(receiver)
    check_dial(dial)
    check_band(band)
