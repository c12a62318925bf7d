"""The dials at which the tone of a signal is in a band."""

from imagetones.checks import check_band, check_dial, check_dial_stage, check_order, check_receiver, check_signal
from imagetones.lines import dial_line
from imagetones.pieces import band_pieces, count_to, first_from


def next_dial(receiver, signal, band, dial):
    """The least dial from this one on at which the tone of the signal is in the band, or None."""
    _check_band_of(receiver, signal, band)
    check_dial(dial)
    check_dial_stage(receiver)
    steps = first_from(_heard_from(receiver, signal, band, dial, 1), 0)
    return None if steps is None else dial + steps


def last_dial(receiver, signal, band, dial):
    """The greatest dial up to this one at which the tone of the signal is in the band, or None."""
    _check_band_of(receiver, signal, band)
    check_dial(dial)
    check_dial_stage(receiver)
    steps = first_from(_heard_from(receiver, signal, band, dial, -1), 0)
    return None if steps is None else dial - steps


def count_dials(receiver, signal, band, least, greatest):
    """At how many of the dials from `least` to `greatest` the tone of the signal is in the band."""
    _check_band_of(receiver, signal, band)
    check_dial(least)
    check_dial(greatest)
    check_order(least, greatest)
    check_dial_stage(receiver)
    return count_to(_heard_from(receiver, signal, band, least, 1), greatest - least)


def _check_band_of(receiver, signal, band):
    check_receiver(receiver)
    check_signal(signal)
    check_band(band)


def _heard_from(receiver, signal, band, dial, way):
    """The pieces of the steps from a dial at which the tone of the signal is in the band."""
    return band_pieces(dial_line(receiver, signal, dial, way), receiver[1], band)
