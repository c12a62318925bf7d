"""Wanted numbers: those that make a tone in a band, as they come out of the stages.

They are told as a tuple (spans, rate). Without a sampler (rate None) the spans are
a list of the stretches (low, high) of these numbers. With one the spans are such
stretches of remainders by the rate, and come back in each period of the rate.
"""


def wanted_numbers(band, rate):
    """The numbers of which the sampler, if there is one, makes a tone in a band."""
    if rate is None:
        return ([band], None)
    least = band[0]
    top = min(band[1], rate // 2)
    # Half an even rate is its own mirror image, and so is 0: these are told once.
    spans = [(least, top), (max(rate - top, top + 1), min(rate - least, rate - 1))]
    return ([(low, high) for low, high in spans if low <= high], rate)


def count_below(wanted, end):
    """How many wanted numbers are below an end (None: all); None if there is no end of them."""
    spans, rate = wanted
    many = sum([high - low + 1 for low, high in spans])
    if end is None:
        return many if rate is None or not spans else None
    periods, rest = (0, end) if rate is None else divmod(end, rate)
    return periods * many + sum([max(0, min(high + 1, rest) - low) for low, high in spans])


def wanted_number(wanted, index):
    """The wanted number with an index, from 0 on, in ascending order; None if there are not so many."""
    spans, rate = wanted
    base, left = 0, index
    if rate is not None and spans:
        periods, left = divmod(index, count_below(wanted, rate))
        base = periods * rate
    for low, high in spans:
        if left <= high - low:
            return base + low + left
        left -= high - low + 1
    return None
