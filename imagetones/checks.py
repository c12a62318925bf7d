"""What is a right argument, and the errors of wrong ones."""

from imagetones.errors import (Impossible, InvalidBand, InvalidDial, InvalidLooks, InvalidNumber, InvalidReceiver,
                               InvalidSignal, InvalidSignals, InvalidTone)
from imagetones.stages import dial_place

MOST_STAGES = 8
MOST_SIGNALS = 4
MOST_LOOKS = 6
LEAST_RATE = 2


def is_integer(value):
    """Whether a value is an integer; True and False are none."""
    return isinstance(value, int) and not isinstance(value, bool)


def is_natural(value):
    """Whether a value is an integer from 0 on."""
    return is_integer(value) and value >= 0


def is_band(value):
    """Whether a value is a tuple (least, greatest) of integers from 0 on, in this order."""
    if not isinstance(value, tuple) or len(value) != 2:
        return False
    least, greatest = value
    return is_natural(least) and is_natural(greatest) and least <= greatest


def is_stage(value):
    """Whether a value is a stage of a receiver."""
    # The first item may be any value, also one whose == fails: only strings are compared.
    if not isinstance(value, tuple) or len(value) < 2 or not isinstance(value[0], str):
        return False
    kind = value[0]
    if kind == "mix":
        return len(value) == 2 and is_natural(value[1])
    if kind == "dial":
        return len(value) == 2 and is_integer(value[1])
    return kind == "pass" and is_band(value[1:])


def is_rate(value):
    """Whether a value can stand as the rate of a receiver."""
    return value is None or (is_integer(value) and value >= LEAST_RATE)


def is_look(value):
    """Whether a value is a look: a dial and a band, or a dial and None twice for silence."""
    if not isinstance(value, tuple) or len(value) != 3:
        return False
    dial, least, greatest = value
    is_silence = least is None and greatest is None
    return is_integer(dial) and (is_silence or is_band((least, greatest)))


def _is_frame(value):
    """Whether a value has the outer form of a receiver, whatever its stages and its rate are."""
    if not isinstance(value, tuple) or len(value) != 2:
        return False
    return isinstance(value[0], list) and 1 <= len(value[0]) <= MOST_STAGES


def check_receiver(receiver):
    """Raise InvalidReceiver unless this is a receiver."""
    if not _is_frame(receiver):
        raise InvalidReceiver(None)
    stages, rate = receiver
    has_dial = False
    for index, stage in enumerate(stages):
        if not is_stage(stage):
            raise InvalidReceiver(index)
        if stage[0] == "dial":
            if has_dial:
                raise InvalidReceiver(index)
            has_dial = True
    if not is_rate(rate):
        raise InvalidReceiver(len(stages))


def check_dial(dial):
    """Raise InvalidDial unless this is an integer."""
    if not is_integer(dial):
        raise InvalidDial("a dial is an integer")


def check_signal(signal):
    """Raise InvalidSignal unless this is an integer from 0 on."""
    if not is_natural(signal):
        raise InvalidSignal("a signal is an integer from 0 on")


def check_signals(signals):
    """Raise InvalidSignals unless this is a list of 1 to 4 signals."""
    if not isinstance(signals, list) or not 1 <= len(signals) <= MOST_SIGNALS:
        raise InvalidSignals(None)
    for index, signal in enumerate(signals):
        if not is_natural(signal):
            raise InvalidSignals(index)


def check_looks(looks):
    """Raise InvalidLooks unless this is a list of 1 to 6 looks."""
    if not isinstance(looks, list) or not 1 <= len(looks) <= MOST_LOOKS:
        raise InvalidLooks(None)
    for index, look in enumerate(looks):
        if not is_look(look):
            raise InvalidLooks(index)


def check_band(band):
    """Raise InvalidBand unless this is a band."""
    if not is_band(band):
        raise InvalidBand("a band is a tuple of two integers from 0 on, the least and the greatest tone")


def check_tone(tone):
    """Raise InvalidTone unless this is an integer from 0 on."""
    if not is_natural(tone):
        raise InvalidTone("a tone is an integer from 0 on")


def check_natural(number):
    """Raise InvalidNumber unless this is an integer from 0 on."""
    if not is_natural(number):
        raise InvalidNumber("this number is an integer from 0 on")


def check_positive(number):
    """Raise InvalidNumber unless this is an integer from 1 on."""
    if not is_natural(number) or number == 0:
        raise InvalidNumber("this number is an integer from 1 on")


def check_step(step):
    """Raise InvalidNumber unless this is an integer other than 0."""
    if not is_integer(step) or step == 0:
        raise InvalidNumber("a step is an integer other than 0")


def check_order(least, greatest):
    """Raise InvalidNumber if the greatest of these dials is less than the least one."""
    if greatest < least:
        raise InvalidNumber("the greatest dial is less than the least one")


def check_dial_stage(receiver):
    """Raise Impossible unless a stage of this receiver is a dial."""
    if dial_place(receiver[0]) is None:
        raise Impossible("this receiver has no dial")
