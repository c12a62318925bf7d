"""The definitions of the document, read step by step: what the tests compare the package with."""

import random

BIG = 10 ** 35 + 7919
WRONG_INTEGERS = [None, True, False, "1", 1.0, [1], (1,), b"1", {}]
WRONG_NATURALS = WRONG_INTEGERS + [-1, -10 ** 30]


def nearest_multiple_distance(rate, number):
    """The distance to the nearest multiple, by trying the multiples around the number."""
    around = number // rate
    return min(abs(number - rate * (around + by)) for by in (-1, 0, 1, 2))


def plain_stage_tones(receiver, dial, signal):
    stages, rate = receiver
    told = []
    number = signal
    for stage in stages:
        if number is not None:
            if stage[0] == "mix":
                number = number - stage[1] if number > stage[1] else stage[1] - number
            elif stage[0] == "dial":
                place = dial + stage[1]
                number = number - place if number > place else place - number
            elif number < stage[1] or number > stage[2]:
                number = None
        told.append(number)
    if rate is not None:
        told.append(None if number is None else nearest_multiple_distance(rate, number))
    return told


def plain_tone(receiver, dial, signal):
    return plain_stage_tones(receiver, dial, signal)[-1]


def plain_slopes(receiver, dial, low, high):
    """The slopes among the signals from low to high; those at the two ends may be cut."""
    tones = [plain_tone(receiver, dial, signal) for signal in range(low, high + 1)]
    slopes = []
    begun = None
    for place in range(len(tones) - 1):
        way = None
        if tones[place] is not None and tones[place + 1] is not None:
            step = tones[place + 1] - tones[place]
            way = step if step in (1, -1) else None
        if begun is not None and begun[1] == way:
            continue
        if begun is not None:
            slopes.append((low + begun[0], low + place, tones[begun[0]], begun[1]))
        begun = None if way is None else (place, way)
    if begun is not None:
        slopes.append((low + begun[0], high, tones[begun[0]], begun[1]))
    return slopes


def beyond_turns(receiver, dial):
    """A signal from which on no stage turns any more: all numbers go up by 1, or all are silent."""
    far = 0
    for stage in receiver[0]:
        far += abs(dial + stage[1]) if stage[0] == "dial" else stage[-1] + 1
    return far + 1


def some_stages(source, many, least=0, greatest=9):
    """Some stages with numbers up to a greatest one, at most one of them a dial stage."""
    dial_place = source.choice([None, source.randrange(many)])
    stages = []
    for place in range(many):
        if place == dial_place:
            stages.append(("dial", source.randint(-greatest, greatest)))
        elif source.random() < 0.3:
            low = source.randint(least, greatest)
            stages.append(("pass", source.choice([0, low // 2, low]), source.randint(low, greatest + 3)))
        else:
            stages.append(("mix", source.randint(least, greatest)))
    return stages


def small_receivers(seed, many, rates=(None, 2, 3, 4, 5, 6, 7, 8, 11)):
    """Pairs of a small receiver and a dial, the same ones for the same seed."""
    source = random.Random(seed)
    pairs = []
    for _ in range(many):
        stages = some_stages(source, source.choice([1, 1, 2, 2, 3, 3, 4, 5, 8]))
        pairs.append(((stages, source.choice(rates)), source.randint(-12, 12)))
    return pairs


def great_receivers(seed, many, rates=(None, 2, 3, 10 ** 29, 10 ** 29 + 1, 10 ** 33 + 7, 10 ** 39)):
    """Pairs of a receiver with numbers of up to 40 digits and a dial."""
    source = random.Random(seed)
    pairs = []
    for _ in range(many):
        stages = some_stages(source, source.randint(1, 8), 10 ** 20, 10 ** source.choice([30, 35, 39]))
        dial = source.randint(-10 ** 39, 10 ** 39)
        pairs.append(((stages, source.choice(rates)), dial))
    return pairs


def is_in(band, tone):
    """Whether a tone, or silence, is in a band."""
    return tone is not None and band[0] <= tone <= band[1]


def some_bands(source, rate, many):
    """Some bands with small tones, and those at the ends of what the sampler makes."""
    half = (rate or 9) // 2
    bands = [(0, 0), (half, half), (0, half), (half, half + 3), (half + 1, half + 9), (0, 99)]
    for _ in range(many):
        least = source.randint(0, 9)
        bands.append((least, least + source.choice([0, 0, 1, 2, 5])))
    return source.sample(bands, many)


def moved_far(source, receiver, most_stages=7):
    """The receiver behind one more mixer, so that its first turns lie at the signals around BIG."""
    return ([("mix", BIG + source.randint(0, 9))] + receiver[0][:most_stages], receiver[1])


def with_dial(source, receiver):
    """The receiver, with a dial stage put somewhere if it has none."""
    stages = list(receiver[0])
    if all(stage[0] != "dial" for stage in stages):
        stages = stages[:7]
        stages.insert(source.randint(0, len(stages)), ("dial", source.randint(-9, 9)))
    return (stages, receiver[1])


def beyond_dials(receiver, signal):
    """A number up to which, and down to its negative, all turns of the dials lie."""
    return signal + sum([abs(part) + 1 for stage in receiver[0] for part in stage[1:]]) + 1


def fits_look(receiver, look, signal):
    """Whether a signal fits one look."""
    dial, least, greatest = look
    tone = plain_tone(receiver, dial, signal)
    return tone is None if least is None else is_in((least, greatest), tone)


def fits_looks(receiver, looks, signal):
    return all(fits_look(receiver, look, signal) for look in looks)
