"""Scans: going by steps from a dial on, and stopping where some signal of a list is heard in a band."""

from imagetones.checks import (check_band, check_dial, check_dial_stage, check_natural, check_receiver, check_signals,
                               check_step)
from imagetones.lines import dial_line
from imagetones.pieces import band_pieces, common_pieces, other_pieces, period_of
from imagetones.stages import tone_behind
from imagetones.strides import count_strides, first_stride


def first_stop(receiver, signals, band, dial, step):
    """The least index, from 0 on, at which a scan stops, None if there is none."""
    _check_scan(receiver, signals, band, dial)
    check_step(step)
    check_dial_stage(receiver)
    found = None
    for signal in signals:
        earlier = first_stride(_heard_along(receiver, signal, band, dial, step), abs(step), found)
        found = found if earlier is None else earlier
    return found


def count_stops(receiver, signals, band, dial, step, many):
    """At how many of the indexes from 0 to `many` - 1 a scan stops."""
    _check_scan(receiver, signals, band, dial)
    check_step(step)
    check_natural(many)
    check_dial_stage(receiver)
    period = period_of(receiver[1])
    # It goes on where none of the signals is heard.
    passed = other_pieces([], period)
    for signal in sorted(set(signals)):
        heard = _heard_along(receiver, signal, band, dial, step)
        passed = common_pieces(passed, other_pieces(heard, period))
    return many - count_strides(passed, abs(step), many)


def heard_there(receiver, signals, band, dial):
    """The ascending list of the positions of the signals that are heard in the band at this dial."""
    _check_scan(receiver, signals, band, dial)
    check_dial_stage(receiver)
    tones = [tone_behind(receiver, dial, signal) for signal in signals]
    return [index for index, tone in enumerate(tones) if tone is not None and band[0] <= tone <= band[1]]


def _check_scan(receiver, signals, band, dial):
    check_receiver(receiver)
    check_signals(signals)
    check_band(band)
    check_dial(dial)


def _heard_along(receiver, signal, band, dial, step):
    """The pieces of the steps of 1, from a dial on the way of the scan, at which a signal is heard in the band."""
    way = 1 if step > 0 else -1
    return band_pieces(dial_line(receiver, signal, dial, way), receiver[1], band)
