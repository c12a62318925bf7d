"""Stretches: what a receiver without its sampler makes of all signals at a dial.

A stretch is a tuple (least, greatest, number, way): the signals from least to
greatest (None: without an end) are heard, the least one makes this number, and
the numbers go up (way 1) or down (way -1) by 1 from each signal to the next one.
A signal that is heard between silent ones is a stretch of its own, whose way
says nothing. Two stretches that meet at a turn share the signal there.
"""

from imagetones.stages import mixing_tone


def stretches_at(stages, dial):
    """The ascending list of the stretches behind the stages."""
    stretches = [(0, None, 0, 1)]
    for stage in stages:
        center = mixing_tone(stage, dial)
        if center is None:
            stretches = _behind_pass(stretches, stage[1], stage[2])
        else:
            stretches = _behind_mixer(stretches, center)
    return stretches


def parted_stretches(stages, dial):
    """The stretches without shared signals: each one is left to the second stretch that has it."""
    stretches = stretches_at(stages, dial)
    parted = []
    for index, (least, greatest, number, way) in enumerate(stretches):
        is_shared = index + 1 < len(stretches) and stretches[index + 1][0] == greatest
        parted.append((least, greatest - 1 if is_shared else greatest, number, way))
    return parted


def signal_of(stretch, number):
    """The signal that makes a number, if the stretch went on both ways."""
    least, _, start, way = stretch
    return least + way * (number - start)


def number_of(stretch, signal):
    """The number that a signal of a stretch makes."""
    least, _, number, way = stretch
    return number + way * (signal - least)


def cut_to_signals(stretch, low, high):
    """The part of a stretch with the signals from low to high (None: all); None if it has none."""
    least, greatest, number, way = stretch
    first = max(least, low)
    last = greatest
    if greatest is None or (high is not None and high < greatest):
        last = high
    if last is not None and first > last:
        return None
    return (first, last, number + way * (first - least), way)


def cut_to_numbers(stretch, low, high):
    """The part of a stretch with the numbers from low to high; None if it has none."""
    one = signal_of(stretch, low)
    other = signal_of(stretch, high)
    return cut_to_signals(stretch, min(one, other), max(one, other))


def _behind_pass(stretches, low, high):
    passed = []
    for stretch in stretches:
        part = cut_to_numbers(stretch, low, high)
        if part is None:
            continue
        # Where a pass leaves only the turn of two stretches, both leave the same signal.
        if part[0] == part[1] and passed and passed[-1][1] == part[0]:
            continue
        passed.append(part)
    return passed


def _behind_mixer(stretches, center):
    mixed = []
    for stretch in stretches:
        least, greatest, number, _ = stretch
        turn = signal_of(stretch, center)
        distance = abs(number - center)
        if turn <= least:
            mixed.append((least, greatest, distance, 1))
        elif greatest is not None and turn >= greatest:
            mixed.append((least, greatest, distance, -1))
        else:
            mixed.append((least, turn, distance, -1))
            mixed.append((turn, greatest, 0, 1))
    return mixed
