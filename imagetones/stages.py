"""What one stage, and what the sampler, makes of one number."""


def mixing_tone(stage, dial):
    """The tone to which a mixer or a dial stage takes the distance; None of a pass."""
    if stage[0] == "mix":
        return stage[1]
    if stage[0] == "dial":
        return dial + stage[1]
    return None


def dial_place(stages):
    """The index of the dial stage, None if there is none."""
    for index, stage in enumerate(stages):
        if stage[0] == "dial":
            return index
    return None


def behind_stage(stage, dial, number):
    """The number behind a stage, None for silence, which stays silence."""
    if number is None:
        return None
    center = mixing_tone(stage, dial)
    if center is not None:
        return abs(number - center)
    if stage[1] <= number <= stage[2]:
        return number
    return None


def behind_stages(stages, dial, number):
    """The number behind all stages, None for silence."""
    for stage in stages:
        number = behind_stage(stage, dial, number)
    return number


def behind_sampler(rate, number):
    """The number behind the sampler, if there is one (rate None: there is none); None for silence."""
    if number is None or rate is None:
        return number
    above = number % rate
    return min(above, rate - above)


def tone_behind(receiver, dial, signal):
    """The tone of a signal by a receiver, None for silence."""
    stages, rate = receiver
    return behind_sampler(rate, behind_stages(stages, dial, signal))
