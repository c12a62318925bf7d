"""Spans: numbers told by their remainders.

Spans are an ascending list of tuples (low, high) of remainders by a period, which
share none; they mean all numbers, also those below 0, that leave such a remainder.
"""


def all_spans(period):
    """The spans of all numbers."""
    return [(0, period - 1)]


def tone_spans(band, rate):
    """The spans of the numbers of which a sampler makes a tone in a band."""
    least = band[0]
    top = min(band[1], rate // 2)
    # Half an even rate is its own mirror image, and so is 0: these are told once.
    spans = [(least, top), (max(rate - top, top + 1), min(rate - least, rate - 1))]
    return [(low, high) for low, high in spans if low <= high]


def spans_of(stretches, period):
    """The spans of numbers that come back by the period; each stretch (low, high) is no longer than it."""
    spans = []
    for low, high in stretches:
        start = low % period
        end = start + high - low
        if end < period:
            spans.append((start, end))
        else:
            spans.append((start, period - 1))
            spans.append((0, end - period))
    return sorted(spans)


def common_spans(one, other):
    """The spans of the numbers that are in both."""
    pairs = [(max(span[0], mate[0]), min(span[1], mate[1])) for span in one for mate in other]
    return [(low, high) for low, high in pairs if low <= high]


def other_spans(spans, period):
    """The spans of the numbers that are not in these."""
    starts = [0] + [high + 1 for _, high in spans]
    ends = [low - 1 for low, _ in spans] + [period - 1]
    return [(start, end) for start, end in zip(starts, ends) if start <= end]


def count_below(spans, period, end):
    """How many numbers from 0 on and below an end are in the spans."""
    periods, rest = divmod(end, period)
    many = sum([high - low + 1 for low, high in spans])
    return periods * many + sum([max(0, min(high + 1, rest) - low) for low, high in spans])


def number_at(spans, period, index):
    """The number with an index among those from 0 on that are in the spans, of which there is one or more."""
    periods, left = divmod(index, count_below(spans, period, period))
    for low, high in spans:
        if left <= high - low:
            return periods * period + low + left
        left -= high - low + 1
    return None
