"""[2], [3], [5], [6], [9]: receivers, tones and the errors of wrong arguments."""

import copy
import itertools
import random
import unittest

from imagetones.errors import InvalidDial, InvalidReceiver, InvalidSignal
from imagetones.receivers import is_receiver, stage_tones, tone_at
from plain import (BIG, WRONG_INTEGERS, WRONG_NATURALS, beyond_turns, great_receivers, plain_stage_tones,
                   small_receivers)
from wrong import Strange

RIGHT_STAGES = [("mix", 0), ("mix", 5), ("mix", BIG), ("dial", 0), ("dial", -7), ("dial", -BIG),
                ("pass", 0, 0), ("pass", 3, 3), ("pass", 0, BIG)]
WRONG_STAGES = [
    None, 5, True, "mix", b"mix", "m5", {}, Strange(), (), ("mix",), ("dial",), ("pass",), ("pass", 3), ["mix", 5],
    ["dial", 0], ["pass", 0, 9], ("mix", 5, 6), ("dial", 0, 0), ("pass", 0, 9, 9), ("mix", -1), ("mix", True),
    ("mix", False), ("mix", None), ("mix", "5"), ("mix", 5.0), ("mix", [5]), ("mix", (5,)), ("dial", True),
    ("dial", None), ("dial", "0"), ("dial", 0.5), ("pass", -1, 5), ("pass", 6, 5), ("pass", -3, -2),
    ("pass", False, 5), ("pass", 0, True), ("pass", True, True), ("pass", None, None), ("pass", 0, None),
    ("pass", None, 3), ("pass", 0, "9"), ("pass", (0, 9)), ("Mix", 5), ("mixer", 5), ("", 5), ("mix ", 5),
    (b"mix", 5), (None, 5), (True, 5), (0, 5), (Strange(), 5), (["mix"], 5), (("mix",), 5), ("m", 5), ("d", 0),
    (5, "mix"), (("mix", 5),), ("dials", 0), ("passes", 0, 9),
]
WRONG_FRAMES = [
    None, True, False, 0, 4, "m5", "", b"", [], (), {}, Strange(), ("mix", 5), [("mix", 5)], ([("mix", 5)],),
    [[("mix", 5)], None], ([("mix", 5)], None, None), ((("mix", 5),), None), (("mix", 5), None), ({}, None),
    ("m5", None), (None, None), ([], None), ([], 4), ([("mix", 5)] * 9, None), ([None] * 9, 1), (4, [("mix", 5)]),
    (None, [("mix", 5)]), {"stages": [("mix", 5)], "rate": None},
]
WRONG_RATES = [1, 0, -1, -4, True, False, "4", 4.0, [4], (4,), [], {}, b"", Strange()]


def index_of(call, *arguments):
    """The index of the InvalidReceiver that a call raises, or `no error`."""
    try:
        call(*arguments)
    except InvalidReceiver as error:
        return error.index
    return "no error"


class Receivers(unittest.TestCase):
    def assert_wrong(self, value, index):
        self.assertIs(is_receiver(value), False, repr(type(value)))
        for call in (tone_at, stage_tones):
            found = index_of(call, value, 0, 0)
            self.assertEqual((type(found), found), (type(index), index))

    def assert_right(self, value):
        self.assertIs(is_receiver(value), True, value)
        for call in (tone_at, stage_tones):
            self.assertEqual(index_of(call, value, 0, 0), "no error", value)

    def test_right_receivers(self):
        for rate in (None, 2, 3, 10, BIG):
            for stage in RIGHT_STAGES:
                self.assert_right(([stage], rate))
            for many in range(1, 9):
                self.assert_right(([("mix", 5)] * many, rate))
                self.assert_right(([("pass", 0, 9)] * (many - 1) + [("dial", -3)], rate))

    def test_each_wrong_stage_alone_and_among_right_ones(self):
        for wrong in WRONG_STAGES:
            self.assert_wrong(([wrong], None), 0)
            self.assert_wrong(([wrong], 4), 0)
            for ahead, behind in itertools.product(range(4), (0, 1, 4)):
                self.assert_wrong(([("mix", 1)] * ahead + [wrong] + [("pass", 0, 9)] * behind, 4), ahead)

    def test_the_first_wrong_stage_counts(self):
        for one, other in itertools.product(WRONG_STAGES[:20], WRONG_STAGES[-20:]):
            self.assert_wrong(([("dial", 0), one, other], None), 1)
            self.assert_wrong(([one, ("mix", 5), other], 4), 0)

    def test_a_second_dial_stage(self):
        self.assert_wrong(([("dial", 0), ("dial", 1)], 4), 1)
        self.assert_wrong(([("dial", 0), ("dial", 0)], None), 1)
        self.assert_wrong(([("dial", 0), ("mix", 5), ("pass", 0, 9), ("dial", 0), ("dial", 0)], None), 3)
        self.assert_wrong(([("mix", 5), ("dial", 0), ("dial", 1), ("mix", -1)], None), 2)
        self.assert_wrong(([("dial", 0), ("mix", -1), ("dial", 1)], None), 1)
        self.assert_wrong(([("mix", 1)] * 6 + [("dial", 0), ("dial", 0)], 1), 7)

    def test_wrong_frames(self):
        for value in WRONG_FRAMES:
            self.assert_wrong(value, None)

    def test_wrong_rates(self):
        for rate in WRONG_RATES:
            for many in (1, 2, 8):
                self.assert_wrong(([("mix", 5)] * many, rate), many)
            self.assert_wrong(([("mix", 5), ("mix", -1)], rate), 1)
            self.assert_wrong(([("dial", 5), ("dial", 5), ("mix", 5)], rate), 1)
            self.assert_wrong(([], rate), None)
            self.assert_wrong(([("mix", 5)] * 9, rate), None)


class Tones(unittest.TestCase):
    def assert_plain(self, receiver, dial, signal):
        expected = plain_stage_tones(receiver, dial, signal)
        self.assertEqual(stage_tones(receiver, dial, signal), expected, (receiver, dial, signal))
        self.assertEqual(tone_at(receiver, dial, signal), expected[-1], (receiver, dial, signal))

    def test_all_small_signals_of_all_receivers_with_two_stages(self):
        stages = [("mix", 0), ("mix", 3), ("dial", 0), ("dial", -2), ("pass", 0, 2), ("pass", 2, 5), ("pass", 4, 4)]
        for one, other in itertools.product(stages, stages):
            if one[0] == other[0] == "dial":
                continue
            for rate, dial in itertools.product((None, 2, 3, 4, 7), (-6, -1, 0, 4)):
                for signal in range(14):
                    self.assert_plain(([one, other], rate), dial, signal)

    def test_all_small_signals_of_many_receivers(self):
        for receiver, dial in small_receivers(1, 400):
            for signal in range(min(60, beyond_turns(receiver, dial) + 12)):
                self.assert_plain(receiver, dial, signal)

    def test_great_numbers(self):
        source = random.Random(2)
        for receiver, dial in great_receivers(3, 300):
            places = [abs(part) for stage in receiver[0] for part in stage[1:]] + [abs(dial), BIG, 10 ** 39]
            for place in places:
                self.assert_plain(receiver, dial, max(0, place + source.randint(-2, 2)))
            self.assert_plain(receiver, dial, source.randrange(10 ** 40))

    def test_a_mixer_makes_the_distance(self):
        self.assertEqual([tone_at(([("mix", 3)], None), 0, signal) for signal in range(6)], [3, 2, 1, 0, 1, 2])

    def test_dials_on_both_sides_of_0(self):
        receiver = ([("dial", 2)], None)
        self.assertEqual([tone_at(receiver, dial, 4) for dial in (-9, -2, -1, 0, 2, 3, 9)], [11, 4, 3, 2, 0, 1, 7])

    def test_without_a_dial_stage_the_dial_plays_no_part(self):
        for dial in (-BIG, -1, 0, 5, BIG):
            self.assertEqual(stage_tones(([("mix", 5), ("pass", 0, 9)], 4), dial, 11), [6, 6, 2])

    def test_the_ends_of_a_pass_are_let_through(self):
        tones = [tone_at(([("pass", 3, 5)], None), 0, signal) for signal in range(8)]
        self.assertEqual(tones, [None, None, None, 3, 4, 5, None, None])

    def test_silence_stays(self):
        receiver = ([("mix", 1), ("pass", 0, 0), ("mix", 5), ("dial", 0), ("pass", 0, 99)], 6)
        self.assertEqual(stage_tones(receiver, 0, 1), [0, 0, 5, 5, 5, 1])
        self.assertEqual(stage_tones(receiver, 0, 3), [2, None, None, None, None, None])

    def test_the_sampler(self):
        for rate, tones in [(2, [0, 1, 0, 1, 0, 1]), (3, [0, 1, 1, 0, 1, 1, 0]), (4, [0, 1, 2, 1, 0, 1, 2, 1, 0]),
                            (5, [0, 1, 2, 2, 1, 0, 1, 2, 2, 1, 0])]:
            told = [tone_at(([("mix", 0)], rate), 0, signal) for signal in range(len(tones))]
            self.assertEqual(told, tones)
        self.assertEqual(tone_at(([("mix", 0)], 2 * BIG + 1), 0, BIG + 1), BIG)

    def test_lists_are_new_and_arguments_stay(self):
        receiver = ([("dial", 0), ("pass", 3, 6), ("mix", 4)], 7)
        before = copy.deepcopy(receiver)
        told = stage_tones(receiver, 10, 5)
        told.append(9)
        told[0] = None
        self.assertEqual(stage_tones(receiver, 10, 5), [5, 5, 1, 1])
        receiver[0].append(("mix", 2))
        self.assertEqual(stage_tones(receiver, 10, 5), [5, 5, 1, 1, 1])
        receiver[0].pop()
        tone_at(receiver, 10, 5)
        is_receiver(receiver)
        self.assertEqual(receiver, before)

    def test_by_position_and_by_name(self):
        receiver = ([("dial", 0)], None)
        self.assertEqual(tone_at(signal=3, dial=7, receiver=receiver), 4)
        self.assertEqual(stage_tones(receiver, signal=3, dial=7), [4])
        self.assertIs(is_receiver(value=receiver), True)


class Errors(unittest.TestCase):
    def test_each_wrong_argument_alone(self):
        for receiver in (([("mix", 5)], None), ([("dial", 5)], 4)):
            for call in (tone_at, stage_tones):
                for dial in WRONG_INTEGERS:
                    self.assertRaises(InvalidDial, call, receiver, dial, 0)
                for signal in WRONG_NATURALS:
                    self.assertRaises(InvalidSignal, call, receiver, 0, signal)

    def test_the_first_wrong_argument_counts(self):
        right, wrong = ([("mix", 5)], None), ([("mix", 5)], 1)
        for call in (tone_at, stage_tones):
            for bad in WRONG_INTEGERS:
                self.assertEqual(index_of(call, wrong, bad, bad), 1)
                self.assertEqual(index_of(call, wrong, 0, bad), 1)
                self.assertEqual(index_of(call, wrong, bad, 0), 1)
                self.assertRaises(InvalidDial, call, right, bad, bad)
                self.assertRaises(InvalidDial, call, right, bad, -1)

    def test_a_call_that_raises_changes_nothing(self):
        wrong = ([("dial", 0), ("mix", -1), ["mix", 2]], 4)
        right = ([("dial", 0)], 4)
        before = copy.deepcopy((wrong, right))
        for call in (tone_at, stage_tones):
            self.assertEqual(index_of(call, wrong, 0, 0), 1)
            self.assertRaises(InvalidDial, call, right, None, 0)
            self.assertRaises(InvalidSignal, call, right, 0, -1)
        self.assertIs(is_receiver(wrong), False)
        self.assertEqual((wrong, right), before)
        self.assertEqual(tone_at(right, 0, 6), 2)


if __name__ == "__main__":
    unittest.main()
