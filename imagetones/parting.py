"""The dials at which two signals part: their tones differ, or one of them is silent."""

from imagetones.checks import check_dial, check_dial_stage, check_receiver, check_signal
from imagetones.lines import dial_line
from imagetones.together import first_parting


def parting_dial(receiver, one, other, dial):
    """The least dial from this one on at which two signals part, None if there is none."""
    _check_place(receiver, one, other, dial)
    steps = _steps_to_parting(receiver, one, other, dial, 1)
    return None if steps is None else dial + steps


def parting_way(receiver, one, other, dial):
    """How many steps of 1, up or down, the nearest dial is away at which two signals part; None without one."""
    _check_place(receiver, one, other, dial)
    ways = [_steps_to_parting(receiver, one, other, dial, way) for way in (1, -1)]
    return min([steps for steps in ways if steps is not None], default=None)


def _check_place(receiver, one, other, dial):
    check_receiver(receiver)
    check_signal(one)
    check_signal(other)
    check_dial(dial)
    check_dial_stage(receiver)


def _steps_to_parting(receiver, one, other, dial, way):
    """The least number of steps from a dial, up (way 1) or down (-1), behind which two signals part."""
    rate = receiver[1]
    lines = [dial_line(receiver, signal, dial, way) for signal in (one, other)]
    return first_parting(lines[0], rate, lines[1], rate, 0)
