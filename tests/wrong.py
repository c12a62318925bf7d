"""Wrong arguments of each kind, and the error that the document names for each."""

import itertools

from imagetones import errors
from plain import WRONG_INTEGERS, WRONG_NATURALS


class Strange:
    """A value that cannot be compared."""

    def __eq__(self, other):
        raise AssertionError("compared")

    __hash__ = None


WRONG_BANDS = WRONG_INTEGERS + [
    5, Strange(), (), (1, 2, 3), [1, 2], [1, 1], (2, 1), (-1, 2), (-2, -1), (0, True), (False, 1), (None, None),
    (0, None), (None, 3), (0.0, 1), (0, 1.5), ("0", "1"), ((0, 1),), ((0,), 1), (Strange(), Strange()), "01",
    {0: 1, 1: 2}, range(2),
]
WRONG_RECEIVERS = [
    (None, None), (([], 4), None), ([[("mix", 5)], None], None), (([("mix", 5)] * 9, 4), None),
    (([("mix", -1)], 4), 0), (([("mix", 5), ["mix", 5]], 4), 1), (([("mix", 5), ("pass", 6, 5)], None), 1),
    (([("dial", 5), ("mix", 1), ("dial", 5), ("mix", -1)], 4), 2), (([("mix", 5)], 1), 1),
    (([("mix", 5), ("dial", 5)], True), 2), (([("mix", 5), ("dial", 5), ("pass", 0, 0)], "4"), 3),
]
WRONG_SIGNALS = [
    (None, None), ([], None), ((1, 2), None), ([1, 2, 3, 4, 5], None), (7, None), ("12", None), ({1: 2}, None),
    (range(3), None), (True, None), (Strange(), None), ([-1], 0), ([5, -1, -2], 1), ([5, 5, 5, True], 3),
    ([False], 0), ([0, None], 1), ([0, "1"], 1), ([0, [1]], 1), ([0, 1.0, -1], 1), ([0, 9, Strange()], 2), ([(1,)], 0),
]
WRONG_LOOKS = [
    (None, None), ([], None), (((0, 1, 1),), None), ([(0, 1, 1)] * 7, None), ((0, 1, 1), None), ("0=1..1", None),
    ({(0, 1, 1): 1}, None), (True, None), (Strange(), None), ([None], 0), ([(0, 1, 1), [0, 1, 1]], 1),
    ([(0, 1, 1), (0, 1)], 1), ([(0, 1, 1), (1, 0, 1, 1)], 1), ([(0, 2, 1)], 0), ([(0, -1, 1)], 0),
    ([(0, None, None), (0, None, 1)], 1), ([(0, 1, None)], 0), ([(None, None, None)], 0), ([(None, 1, 1)], 0),
    ([(0, 1, 1), (0, 1, 1), (True, 1, 1)], 2), ([(0, True, 1)], 0), ([(0, 0, True)], 0), ([(0, False, False)], 0),
    ([(0.0, 1, 1)], 0), ([("0", 1, 1)], 0), ([(0, "1", "1")], 0), ([(0, (1, 1))], 0), ([()], 0), ([Strange()], 0),
    ([(Strange(), 1, 1)], 0), ([(0, Strange(), 1)], 0), ([(0, Strange(), None)], 0), ([(0, None, Strange())], 0),
    ([(0, 1, 1)] * 5 + [(0, 1, 0)], 5),
]
# For each kind of argument its wrong values, each with the error and its index, if it has one.
WRONG = {
    "receiver": [(value, ("InvalidReceiver", index)) for value, index in WRONG_RECEIVERS],
    "dial": [(value, ("InvalidDial", None)) for value in WRONG_INTEGERS + [Strange()]],
    "signal": [(value, ("InvalidSignal", None)) for value in WRONG_NATURALS + [Strange()]],
    "tone": [(value, ("InvalidTone", None)) for value in WRONG_NATURALS + [Strange()]],
    "number": [(value, ("InvalidNumber", None)) for value in WRONG_NATURALS + [Strange()]],
    "step": [(value, ("InvalidNumber", None)) for value in WRONG_INTEGERS + [0, Strange()]],
    "band": [(value, ("InvalidBand", None)) for value in WRONG_BANDS],
    "signals": [(value, ("InvalidSignals", index)) for value, index in WRONG_SIGNALS],
    "looks": [(value, ("InvalidLooks", index)) for value, index in WRONG_LOOKS],
}


def told_error(call, arguments):
    """The name and the index of the error that a call raises; None if it raises none."""
    try:
        call(*arguments)
    except errors.ToneError as error:
        return (type(error).__name__, getattr(error, "index", None))
    return None


def assert_wrong_order(case, call, kinds, right):
    """That a greatest dial below the least one, the last two arguments, is told behind all wrong arguments.

    The right ones may be such that the call raises Impossible: this comes last.
    """
    for least, greatest in [(1, 0), (0, -1), (5, -5), (-4, -5), (10 ** 30, -10 ** 30)]:
        arguments = list(right) + [least, greatest]
        case.assertEqual(told_error(call, arguments), ("InvalidNumber", None))
        for place, kind in enumerate(kinds):
            for value, told in WRONG[kind]:
                wrong = arguments[:place] + [value] + arguments[place + 1:]
                case.assertEqual(told_error(call, wrong), told, (call.__name__, place))
        for value, told in WRONG["dial"]:
            case.assertEqual(told_error(call, list(right) + [value, greatest]), told)
            case.assertEqual(told_error(call, list(right) + [least, value]), told)


def assert_wrong_arguments(case, call, kinds, right):
    """That each wrong argument alone, and the first one of several, is told by its error.

    The right arguments may be such that the call raises Impossible: this comes last.
    """
    for place, kind in enumerate(kinds):
        for value, told in WRONG[kind]:
            arguments = list(right)
            arguments[place] = value
            case.assertEqual(told_error(call, arguments), told, (call.__name__, place))
    for many in range(2, len(kinds) + 1):
        for places in itertools.combinations(range(len(kinds)), many):
            for turn in range(12):
                arguments = list(right)
                for place in places:
                    choices = WRONG[kinds[place]]
                    arguments[place] = choices[(turn * (place + 1)) % len(choices)][0]
                choices = WRONG[kinds[places[0]]]
                told = choices[(turn * (places[0] + 1)) % len(choices)][1]
                case.assertEqual(told_error(call, arguments), told, (call.__name__, places))
