"""Images: the signals that have one tone."""

from imagetones.checks import check_dial, check_natural, check_receiver, check_signal, check_tone
from imagetones.errors import Impossible
from imagetones.finding import count_along, count_to, first_from, signal_along
from imagetones.receivers import tone_at
from imagetones.stretches import parted_stretches
from imagetones.wanted import wanted_numbers


def image_rows(receiver, dial, tone):
    """All signals that have a tone, as an ascending list of rows (first, step, many)."""
    check_receiver(receiver)
    check_dial(dial)
    check_tone(tone)
    spans, rate = wanted_numbers((tone, tone), receiver[1])
    # Each span of one tone is one number or remainder, and so one row on each stretch.
    rows = [_row_along(stretch, ([span], rate))
            for stretch in parted_stretches(receiver[0], dial) for span in spans]
    found = [row for row in rows if row is not None]
    return sorted(found, key=lambda row: row[0])


def image_count(receiver, dial, signal, far):
    """How many of the signals from 0 to `far` have the same tone as this signal."""
    _check_place(receiver, dial, signal)
    check_natural(far)
    stretches, wanted = _images(receiver, dial, signal)
    return count_to(stretches, wanted, far)


def next_image(receiver, dial, signal):
    """The least greater signal with the same tone, None if there is none."""
    _check_place(receiver, dial, signal)
    stretches, wanted = _images(receiver, dial, signal)
    return first_from(stretches, wanted, signal + 1)


def _check_place(receiver, dial, signal):
    check_receiver(receiver)
    check_dial(dial)
    check_signal(signal)


def _row_along(stretch, wanted):
    """The row of the signals of a stretch that make wanted numbers; None if there are none."""
    many = count_along(stretch, wanted)
    if many == 0:
        return None
    return (signal_along(stretch, wanted, 0), 1 if many == 1 else wanted[1], many)


def _images(receiver, dial, signal):
    """The stretches and the wanted numbers of the signals with the same tone."""
    tone = tone_at(receiver, dial, signal)
    if tone is None:
        raise Impossible("this signal is not heard")
    return (parted_stretches(receiver[0], dial), wanted_numbers((tone, tone), receiver[1]))
