"""The dials at which the tone of a signal is in a band.

Behind the dial stage all that counts is how far the dial is from the one that
takes the signal to 0 there: this distance goes through the other stages as a
signal does. So two dials that are equally far from it, on either side, are alike.
"""

from imagetones.checks import check_band, check_dial, check_dial_stage, check_order, check_receiver, check_signal
from imagetones.finding import count_to, first_from, last_to
from imagetones.stages import behind_stage, dial_place
from imagetones.stretches import parted_stretches
from imagetones.wanted import wanted_numbers


def next_dial(receiver, signal, band, dial):
    """The least dial from this one on at which the tone of the signal is in the band, or None."""
    _check_band_of(receiver, signal, band)
    check_dial(dial)
    check_dial_stage(receiver)
    center, stretches = _distances(receiver, signal)
    return _first_dial(center, stretches, wanted_numbers(band, receiver[1]), dial)


def last_dial(receiver, signal, band, dial):
    """The greatest dial up to this one at which the tone of the signal is in the band, or None."""
    _check_band_of(receiver, signal, band)
    check_dial(dial)
    check_dial_stage(receiver)
    center, stretches = _distances(receiver, signal)
    mirrored = _first_dial(-center, stretches, wanted_numbers(band, receiver[1]), -dial)
    return None if mirrored is None else -mirrored


def count_dials(receiver, signal, band, least, greatest):
    """At how many of the dials from `least` to `greatest` the tone of the signal is in the band."""
    _check_band_of(receiver, signal, band)
    check_dial(least)
    check_dial(greatest)
    check_order(least, greatest)
    check_dial_stage(receiver)
    center, stretches = _distances(receiver, signal)
    wanted = wanted_numbers(band, receiver[1])
    # The distance 0 counts as one above.
    above = _count_between(stretches, wanted, max(0, least - center), greatest - center)
    below = _count_between(stretches, wanted, max(1, center - greatest), center - least)
    return above + below


def _check_band_of(receiver, signal, band):
    check_receiver(receiver)
    check_signal(signal)
    check_band(band)


def _distances(receiver, signal):
    """The dial that takes the signal to 0, and the stretches of the distances from it that are heard."""
    stages = receiver[0]
    place = dial_place(stages)
    number = signal
    for stage in stages[:place]:
        number = behind_stage(stage, 0, number)
    if number is None:
        return (0, [])
    return (number - stages[place][1], parted_stretches(stages[place + 1:], 0))


def _first_dial(center, stretches, wanted, dial):
    if dial < center:
        distance = last_to(stretches, wanted, center - dial)
        if distance is not None:
            return center - distance
    distance = first_from(stretches, wanted, max(0, dial - center))
    return None if distance is None else center + distance


def _count_between(stretches, wanted, low, high):
    if high < low:
        return 0
    return count_to(stretches, wanted, high) - count_to(stretches, wanted, low - 1)
