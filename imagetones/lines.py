"""Lines: what a receiver makes of one signal at the dials from one dial on, up or down.

Behind the dial stage all that counts is how far the dial is from the one that
takes the signal to 0 there. So the steps of 1 from a dial on, counted from 0,
go through a dial stage at that distance, and then on, as signals do.
"""

from imagetones.stages import behind_stages, dial_place
from imagetones.stretches import parted_stretches


def dial_line(receiver, signal, dial, way):
    """The stretches of the steps from a dial, up (way 1) or down (way -1), at which the signal is heard."""
    stages = receiver[0]
    place = dial_place(stages)
    number = behind_stages(stages[:place], 0, signal)
    if number is None:
        return []
    center = number - stages[place][1]
    return parted_stretches([("dial", way * (center - dial))] + stages[place + 1:], 0)
