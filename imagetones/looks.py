"""Told back: the signals that fit looks, and looks that no signal fits together."""

from imagetones.checks import check_looks, check_natural, check_receiver, check_signal
from imagetones.pieces import (band_pieces, common_pieces, count_to, first_from, heard_pieces, other_pieces, period_of,
                               place_at)
from imagetones.stretches import parted_stretches


def next_fit(receiver, looks, signal):
    """The least signal from this one on that fits the looks, None if there is none."""
    _check_told(receiver, looks)
    check_signal(signal)
    return first_from(_fitting(receiver, looks), signal)


def count_fits(receiver, looks, far):
    """How many of the signals from 0 to `far` fit the looks."""
    _check_told(receiver, looks)
    check_natural(far)
    return count_to(_fitting(receiver, looks), far)


def nth_fit(receiver, looks, index):
    """The signal with an index, from 0 on, among those that fit the looks; None if there are not so many."""
    _check_told(receiver, looks)
    check_natural(index)
    return place_at(_fitting(receiver, looks), index)


def clashing_looks(receiver, looks):
    """An ascending list of indexes of looks that no signal fits together, all needed; None if some signal fits all."""
    _check_told(receiver, looks)
    if _has_fit(receiver, looks):
        return None
    indexes = list(range(len(looks)))
    # What no signal fits still without a look does not need it, neither now nor with fewer looks.
    for index in range(len(looks)):
        others = [other for other in indexes if other != index]
        if not _has_fit(receiver, [looks[other] for other in others]):
            indexes = others
    return indexes


def _check_told(receiver, looks):
    check_receiver(receiver)
    check_looks(looks)


def _has_fit(receiver, looks):
    return first_from(_fitting(receiver, looks), 0) is not None


def _fitting(receiver, looks):
    """The pieces of the signals that fit all looks."""
    fitting = other_pieces([], period_of(receiver[1]))
    for look in looks:
        fitting = common_pieces(fitting, _look_pieces(receiver, look))
    return fitting


def _look_pieces(receiver, look):
    """The pieces of the signals that fit one look."""
    stages, rate = receiver
    dial, least, greatest = look
    stretches = parted_stretches(stages, dial)
    if least is None:
        return other_pieces(heard_pieces(stretches, rate), period_of(rate))
    return band_pieces(stretches, rate, (least, greatest))
