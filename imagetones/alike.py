"""Two receivers: where their tones differ, and which stages make no difference."""

from imagetones.checks import check_dial, check_receiver, check_signal
from imagetones.stretches import parted_stretches
from imagetones.together import first_parting


def first_unlike(receiver, other, dial):
    """The least signal whose tones by two receivers differ at a dial, None if none does."""
    return next_unlike(receiver, other, dial, 0)


def next_unlike(receiver, other, dial, signal):
    """The least signal from this one on whose tones differ, None if none does."""
    check_receiver(receiver)
    check_receiver(other)
    check_dial(dial)
    check_signal(signal)
    ones = parted_stretches(receiver[0], dial)
    others = parted_stretches(other[0], dial)
    return first_parting(ones, receiver[1], others, other[1], signal)


def idle_stages(receiver, dial):
    """The ascending list of the indexes of all stages that are idle at a dial."""
    check_receiver(receiver)
    check_dial(dial)
    return [index for index in range(len(receiver[0])) if _is_idle(receiver, dial, index)]


def trimmed_receiver(receiver, dial):
    """The receiver without the stages that, from the first one on, are idle in what is left then."""
    check_receiver(receiver)
    check_dial(dial)
    left = (list(receiver[0]), receiver[1])
    index = 0
    while index < len(left[0]):
        if _is_idle(left, dial, index):
            left = _without_stage(left, index)
        else:
            index += 1
    return left


def _without_stage(receiver, index):
    stages, rate = receiver
    return (stages[:index] + stages[index + 1:], rate)


def _is_idle(receiver, dial, index):
    if len(receiver[0]) < 2:
        return False
    return first_unlike(receiver, _without_stage(receiver, index), dial) is None
