"""The signals that are heard in a band at a dial."""

from imagetones.checks import check_band, check_dial, check_natural, check_receiver, check_signal
from imagetones.pieces import band_pieces, count_to, first_from, last_to, place_at
from imagetones.stretches import parted_stretches


def next_heard(receiver, dial, band, signal):
    """The least signal from this one on that is heard in the band, None if there is none."""
    _check_place(receiver, dial, band)
    check_signal(signal)
    return first_from(_heard_in(receiver, dial, band), signal)


def last_heard(receiver, dial, band, signal):
    """The greatest signal up to this one that is heard in the band, None if there is none."""
    _check_place(receiver, dial, band)
    check_signal(signal)
    return last_to(_heard_in(receiver, dial, band), signal)


def count_heard(receiver, dial, band, far):
    """How many of the signals from 0 to `far` are heard in the band."""
    _check_place(receiver, dial, band)
    check_natural(far)
    return count_to(_heard_in(receiver, dial, band), far)


def nth_heard(receiver, dial, band, index):
    """The signal with an index, from 0 on, of those heard in the band; None if there are not so many."""
    _check_place(receiver, dial, band)
    check_natural(index)
    return place_at(_heard_in(receiver, dial, band), index)


def _check_place(receiver, dial, band):
    check_receiver(receiver)
    check_dial(dial)
    check_band(band)


def _heard_in(receiver, dial, band):
    """The pieces of the signals that are heard in the band."""
    return band_pieces(parted_stretches(receiver[0], dial), receiver[1], band)
