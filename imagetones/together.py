"""Lists of stretches side by side: where both or all of them go on without a turn, and where two part."""

from imagetones.pieces import band_pieces, first_from
from imagetones.stages import behind_sampler
from imagetones.stretches import cut_to_signals, number_of


def side_by_side(lists, least):
    """The rows (first, last, parts) of the signals from the least one on.

    A row has as many signals as all lists go on without a cut, and of each list the
    part of a stretch that has just these signals, None for silence there.
    """
    starts = _starts_from([stretch for stretches in lists for stretch in stretches], least)
    lasts = [start - 1 for start in starts[1:]] + [None]
    columns = [_parts_at(stretches, starts, lasts) for stretches in lists]
    return [(start, last, [column[index] for column in columns])
            for index, (start, last) in enumerate(zip(starts, lasts))]


def first_parting(ones, rate, others, other_rate, least):
    """The least signal from this one on whose tones by two lists of stretches differ, or None."""
    for first, _, parts in side_by_side([ones, others], least):
        found = _unlike_along(parts[0], rate, parts[1], other_rate, first)
        if found is not None:
            return found
    return None


def _starts_from(stretches, least):
    """The ascending signals from the least one on at which a stretch or a silence begins, and this one."""
    begun = [stretch[0] for stretch in stretches]
    ended = [stretch[1] + 1 for stretch in stretches if stretch[1] is not None]
    return sorted({max(start, least) for start in begun + ended + [least]})


def _parts_at(stretches, starts, lasts):
    """For each start the part of a stretch from it to the last one of its row, None for silence there."""
    parts = []
    place = 0
    for start, last in zip(starts, lasts):
        while place < len(stretches) and cut_to_signals(stretches[place], start, None) is None:
            place += 1
        parts.append(cut_to_signals(stretches[place], start, last) if place < len(stretches) else None)
    return parts


def _unlike_along(one, rate, two, other_rate, start):
    """The least signal whose tones differ, along two parts that have the same signals."""
    if one is None or two is None:
        return None if one is None and two is None else start
    # Tones that are alike at the first two signals go on alike up to the first peak of a sampler,
    # perhaps by way of 0. If they do not part right behind it, the rates are equal: they never do.
    places = [start, start + 1] + _behind_peak(one, rate) + _behind_peak(two, other_rate)
    for place in sorted(places):
        if one[1] is not None and place > one[1]:
            return None
        if behind_sampler(rate, number_of(one, place)) != behind_sampler(other_rate, number_of(two, place)):
            return place
    return None


def _behind_peak(part, rate):
    """A list of the signal behind the next peak of the sampler, empty if there is none."""
    if rate is None:
        return []
    half = rate // 2
    peak = first_from(band_pieces([part], rate, (half, half)), part[0] + 1)
    return [] if peak is None else [peak + 1]
