"""Receivers, and the tones that they make of signals."""

from imagetones.checks import check_dial, check_receiver, check_signal
from imagetones.errors import InvalidReceiver
from imagetones.stages import behind_sampler, behind_stage


def is_receiver(value):
    """Whether any value is a receiver."""
    try:
        check_receiver(value)
    except InvalidReceiver:
        return False
    return True


def tone_at(receiver, dial, signal):
    """The tone of a signal at a dial, None for silence."""
    return stage_tones(receiver, dial, signal)[-1]


def stage_tones(receiver, dial, signal):
    """The numbers behind each stage, and behind the sampler if there is one."""
    check_receiver(receiver)
    check_dial(dial)
    check_signal(signal)
    stages, rate = receiver
    number = signal
    tones = []
    for stage in stages:
        number = behind_stage(stage, dial, number)
        tones.append(number)
    if rate is not None:
        tones.append(behind_sampler(rate, number))
    return tones
