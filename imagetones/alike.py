"""Two receivers: where their tones differ, and which stages make no difference."""

from imagetones.checks import check_dial, check_receiver, check_signal
from imagetones.finding import first_from
from imagetones.stages import behind_sampler
from imagetones.stretches import cut_to_signals, number_of, parted_stretches
from imagetones.wanted import wanted_numbers


def first_unlike(receiver, other, dial):
    """The least signal whose tones by two receivers differ at a dial, None if none does."""
    return next_unlike(receiver, other, dial, 0)


def next_unlike(receiver, other, dial, signal):
    """The least signal from this one on whose tones differ, None if none does."""
    check_receiver(receiver)
    check_receiver(other)
    check_dial(dial)
    check_signal(signal)
    ones = parted_stretches(receiver[0], dial)
    others = parted_stretches(other[0], dial)
    starts = _starts_from(ones + others, signal)
    for one, two, start in zip(_parts_at(ones, starts), _parts_at(others, starts), starts):
        found = _unlike_along(one, receiver[1], two, other[1], start)
        if found is not None:
            return found
    return None


def idle_stages(receiver, dial):
    """The ascending list of the indexes of all stages that are idle at a dial."""
    check_receiver(receiver)
    check_dial(dial)
    return [index for index in range(len(receiver[0])) if _is_idle(receiver, dial, index)]


def trimmed_receiver(receiver, dial):
    """The receiver without the stages that, from the first one on, are idle in what is left then."""
    check_receiver(receiver)
    check_dial(dial)
    left = (list(receiver[0]), receiver[1])
    index = 0
    while index < len(left[0]):
        if _is_idle(left, dial, index):
            left = _without_stage(left, index)
        else:
            index += 1
    return left


def _without_stage(receiver, index):
    stages, rate = receiver
    return (stages[:index] + stages[index + 1:], rate)


def _is_idle(receiver, dial, index):
    if len(receiver[0]) < 2:
        return False
    return first_unlike(receiver, _without_stage(receiver, index), dial) is None


def _starts_from(stretches, signal):
    """The ascending signals from this one on at which a stretch or a silence begins, and this one."""
    begun = [stretch[0] for stretch in stretches]
    ended = [stretch[1] + 1 for stretch in stretches if stretch[1] is not None]
    return sorted({max(start, signal) for start in begun + ended + [signal]})


def _parts_at(stretches, starts):
    """For each start the part of a stretch from it to the one behind it, None for silence there."""
    parts = []
    place = 0
    for index, start in enumerate(starts):
        last = starts[index + 1] - 1 if index + 1 < len(starts) else None
        while place < len(stretches) and cut_to_signals(stretches[place], start, None) is None:
            place += 1
        part = cut_to_signals(stretches[place], start, last) if place < len(stretches) else None
        parts.append(part)
    return parts


def _unlike_along(one, rate, two, other_rate, start):
    """The least signal whose tones differ, along two parts that have the same signals."""
    if one is None or two is None:
        return None if one is None and two is None else start
    # Tones that are alike at the first two signals go on alike up to the first peak of a sampler,
    # perhaps by way of 0. If they do not part right behind it, the rates are equal: they never do.
    places = [start, start + 1] + _behind_peak(one, rate) + _behind_peak(two, other_rate)
    for place in sorted(places):
        if one[1] is not None and place > one[1]:
            return None
        if _tone_along(one, rate, place) != _tone_along(two, other_rate, place):
            return place
    return None


def _behind_peak(part, rate):
    """A list of the signal behind the next peak of the sampler, empty if there is none."""
    if rate is None:
        return []
    half = rate // 2
    peak = first_from([part], wanted_numbers((half, half), rate), part[0] + 1)
    return [] if peak is None else [peak + 1]


def _tone_along(part, rate, signal):
    number = number_of(part, signal)
    return number if rate is None else behind_sampler(rate, number)
