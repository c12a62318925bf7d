"""Images: the signals that have one tone."""

from imagetones.checks import check_dial, check_natural, check_receiver, check_signal, check_tone
from imagetones.errors import Impossible
from imagetones.pieces import band_pieces, count_along, count_to, first_from, number_pieces, place_along
from imagetones.receivers import tone_at
from imagetones.spans import tone_spans
from imagetones.stretches import parted_stretches


def image_rows(receiver, dial, tone):
    """All signals that have a tone, as an ascending list of rows (first, step, many)."""
    check_receiver(receiver)
    check_dial(dial)
    check_tone(tone)
    stretches = parted_stretches(receiver[0], dial)
    rate = receiver[1]
    if rate is None:
        pieces = band_pieces(stretches, None, (tone, tone))
    else:
        # Each span of one tone is one remainder, and so one row on each stretch.
        pieces = [piece for span in tone_spans((tone, tone), rate)
                  for piece in number_pieces(stretches, rate, [span])]
    rows = [_row_of(piece) for piece in pieces if count_along(piece) != 0]
    return sorted(rows, key=lambda row: row[0])


def image_count(receiver, dial, signal, far):
    """How many of the signals from 0 to `far` have the same tone as this signal."""
    _check_place(receiver, dial, signal)
    check_natural(far)
    return count_to(_images(receiver, dial, signal), far)


def next_image(receiver, dial, signal):
    """The least greater signal with the same tone, None if there is none."""
    _check_place(receiver, dial, signal)
    return first_from(_images(receiver, dial, signal), signal + 1)


def _check_place(receiver, dial, signal):
    check_receiver(receiver)
    check_dial(dial)
    check_signal(signal)


def _row_of(piece):
    """The row of the signals of a piece that has one remainder."""
    many = count_along(piece)
    return (place_along(piece, 0), 1 if many == 1 else piece[3], many)


def _images(receiver, dial, signal):
    """The pieces of the signals with the same tone."""
    tone = tone_at(receiver, dial, signal)
    if tone is None:
        raise Impossible("this signal is not heard")
    return band_pieces(parted_stretches(receiver[0], dial), receiver[1], (tone, tone))
