"""Folds: the stretches of numbers along which a sampler goes one way.

The tones of a sampler go up from each multiple of the rate to the half of the
rate above it (the folds 0, 2, 4 ..) and down from there to the next multiple
(the folds 1, 3, 5 ..). With an even rate neighbouring folds share a number; with
an odd one the two numbers in the middle have the same tone and part the folds.
"""


def fold_ends(rate, fold):
    """The least and the greatest number of a fold."""
    base = fold // 2 * rate
    if fold % 2 == 0:
        return (base, base + rate // 2)
    return (base + rate - rate // 2, base + rate)


def fold_way(fold):
    """1 if the tones go up along a fold, -1 if they go down."""
    return 1 if fold % 2 == 0 else -1


def first_fold_to(rate, number):
    """The first fold whose greatest number is not below this number, which is above 0."""
    below, above = divmod(number - 1, rate)
    return 2 * below if above < rate // 2 else 2 * below + 1


def last_fold_from(rate, number):
    """The last fold whose least number is not above this number."""
    below, above = divmod(number, rate)
    return 2 * below if above < rate - rate // 2 else 2 * below + 1
