"""[7], [10]: slopes, against going through all signals one by one."""

import copy
import itertools
import random
import unittest

from imagetones.errors import InvalidDial, InvalidNumber, InvalidReceiver, InvalidSignal
from imagetones.slopes import count_slopes, mixed_slopes, nth_slope, slopes_at
from plain import (BIG, WRONG_INTEGERS, WRONG_NATURALS, beyond_turns, great_receivers, plain_slopes, plain_tone,
                   small_receivers)

PLAIN, SAMPLED = ([("mix", 5), ("mix", 2)], None), ([("mix", 5), ("mix", 2)], 4)
ODD = ([("mix", 5), ("mix", 2)], 5)
CALLS = [slopes_at, count_slopes, nth_slope]


class Small(unittest.TestCase):
    """All four functions for small receivers, to well beyond all mixers and some rates."""

    def assert_mixed(self, receiver, dial):
        unsampled = (receiver[0], None)
        turns = beyond_turns(receiver, dial)
        expected = plain_slopes(unsampled, dial, 0, turns + 3)
        if expected and expected[-1][1] == turns + 3:
            least, _, tone, way = expected[-1]
            expected[-1] = (least, None, tone, way)
        self.assertEqual(mixed_slopes(receiver, dial), expected, (receiver, dial))
        return expected

    def assert_slopes(self, receiver, dial):
        expected = self.assert_mixed(receiver, dial)
        end = beyond_turns(receiver, dial)
        if receiver[1] is not None:
            end += 3 * receiver[1]
            expected = plain_slopes(receiver, dial, 0, end + receiver[1])
        known = [slope for slope in expected if slope[0] <= end]
        where = (receiver, dial)
        told = [nth_slope(receiver, dial, index) for index in range(len(known))]
        self.assertEqual(told, known, where)
        for signal in range(end + 1):
            begun = [slope for slope in known if slope[0] <= signal]
            self.assertEqual(count_slopes(receiver, dial, signal), len(begun), where)
            there = [slope for slope in begun if slope[1] is None or signal <= slope[1]]
            self.assertEqual(slopes_at(receiver, dial, signal), there, where)
            self.assertLessEqual(len(there), 2)
        if receiver[1] is None or plain_tone(receiver, dial, end) is None:
            self.assertEqual(len(known), len(expected), where)
            self.assertIsNone(nth_slope(receiver, dial, len(known)), where)
            self.assertIsNone(nth_slope(receiver, dial, 10 ** 30), where)
            self.assertEqual(count_slopes(receiver, dial, 10 ** 40), len(known), where)

    def test_all_receivers_with_one_stage(self):
        stages = [("mix", 0), ("mix", 1), ("mix", 2), ("mix", 7), ("dial", 0), ("dial", 3), ("pass", 0, 0),
                  ("pass", 0, 1), ("pass", 2, 9), ("pass", 5, 5), ("pass", 5, 6)]
        for stage, rate, dial in itertools.product(stages, (None, 2, 3, 4, 5, 6, 7), (-4, 0, 5)):
            self.assert_slopes(([stage], rate), dial)

    def test_many_receivers(self):
        for receiver, dial in small_receivers(11, 700):
            self.assert_slopes(receiver, dial)

    def test_many_receivers_with_narrow_passes(self):
        source = random.Random(12)
        for _ in range(300):
            low = source.randint(0, 3)
            stages = [("mix", source.randint(0, 9)), ("mix", source.randint(0, 5)),
                      ("pass", low, low + source.randint(0, 2)), ("dial", source.randint(-3, 3))]
            self.assert_slopes((stages[:source.randint(2, 4)], source.choice([None, 2, 3, 4, 5, 9])), 1)


class Named(unittest.TestCase):
    """Cases that the document names."""

    def test_heard_alone_is_in_no_slope(self):
        alone = ([("pass", 5, 5)], None)
        self.assertEqual(mixed_slopes(alone, 0), [])
        self.assertEqual((slopes_at(alone, 0, 5), count_slopes(alone, 0, BIG), nth_slope(alone, 0, 0)), ([], 0, None))
        turn = ([("mix", 9), ("pass", 0, 0)], 4)
        self.assertEqual((mixed_slopes(turn, 0), slopes_at(turn, 0, 9), count_slopes(turn, 0, 99)), ([], [], 0))

    def test_alike_neighbours_are_in_no_slope(self):
        self.assertEqual(slopes_at(ODD, 0, 0), [])
        pair = ([("pass", 2, 3)], 5)
        self.assertEqual(mixed_slopes(pair, 0), [(2, 3, 2, 1)])
        self.assertEqual([slopes_at(pair, 0, 2), slopes_at(pair, 0, 3), count_slopes(pair, 0, 99)], [[], [], 0])
        turn = ([("mix", 9), ("mix", 2)], 5)
        self.assertEqual([plain_tone(turn, 0, signal) for signal in (8, 9, 10)], [1, 2, 1])
        flat = ([("mix", 9), ("mix", 3)], 5)
        self.assertEqual([plain_tone(flat, 0, signal) for signal in (8, 9, 10)], [2, 2, 2])
        self.assertEqual(slopes_at(flat, 0, 9), [])

    def test_the_sampler_shares_signals_or_not(self):
        even, odd = ([("mix", 0)], 4), ([("mix", 0)], 5)
        self.assertEqual(slopes_at(even, 0, 2), [(0, 2, 0, 1), (2, 4, 2, -1)])
        self.assertEqual(slopes_at(odd, 0, 2), [(0, 2, 0, 1)])
        self.assertEqual(slopes_at(odd, 0, 3), [(3, 5, 2, -1)])
        self.assertEqual(slopes_at(odd, 0, 5), [(3, 5, 2, -1), (5, 7, 0, 1)])

    def test_the_rates_2_and_3(self):
        two, three = ([("mix", 0)], 2), ([("mix", 0)], 3)
        self.assertEqual([nth_slope(two, 0, index) for index in range(3)], [(0, 1, 0, 1), (1, 2, 1, -1), (2, 3, 0, 1)])
        self.assertEqual([nth_slope(three, 0, index) for index in range(3)],
                         [(0, 1, 0, 1), (2, 3, 1, -1), (3, 4, 0, 1)])

    def test_slopes_of_two_signals(self):
        self.assertEqual(mixed_slopes(([("pass", 4, 5)], None), 0), [(4, 5, 4, 1)])
        self.assertEqual(nth_slope(([("pass", 4, 5)], 4), 0, 0), (4, 5, 0, 1))
        self.assertEqual(mixed_slopes(([("mix", 1)], None), 0), [(0, 1, 1, -1), (1, None, 0, 1)])

    def test_slopes_without_an_end(self):
        self.assertEqual(nth_slope(PLAIN, 0, 3), (7, None, 0, 1))
        self.assertEqual(slopes_at(PLAIN, 0, BIG), [(7, None, 0, 1)])
        self.assertEqual(slopes_at(PLAIN, 0, 7), [(5, 7, 2, -1), (7, None, 0, 1)])
        self.assertEqual((count_slopes(PLAIN, 0, 6), count_slopes(PLAIN, 0, 7), count_slopes(PLAIN, 0, BIG)), (3, 4, 4))

    def test_a_mixer_at_0_and_a_dial_below_0_turn_nothing(self):
        self.assertEqual(mixed_slopes(([("mix", 0)], None), 0), [(0, None, 0, 1)])
        self.assertEqual(mixed_slopes(([("dial", 0)], None), -BIG), [(0, None, BIG, 1)])


class Great(unittest.TestCase):
    """Numbers of 30 to 40 digits."""

    def assert_is_slope(self, receiver, dial, slope):
        """That a slope is one and goes on no further, by its ends and some signals in it."""
        least, greatest, tone, way = slope
        where = (receiver, dial, slope)
        self.assertEqual(plain_tone(receiver, dial, least), tone, where)
        self.assertEqual(plain_tone(receiver, dial, least + 1), tone + way, where)
        last = 10 ** 41 if greatest is None else greatest
        for signal in (least + (last - least) // 3, least + (last - least) // 2, last - 1, last):
            self.assertEqual(plain_tone(receiver, dial, signal), tone + way * (signal - least), where)
        if greatest is not None:
            behind = plain_tone(receiver, dial, greatest + 1)
            self.assertNotEqual(behind, tone + way * (greatest + 1 - least), where)
        if least > 0:
            self.assertNotEqual(plain_tone(receiver, dial, least - 1), tone - way, where)

    def assert_no_slope_between(self, receiver, dial, low, high):
        """That no signal between two slopes is in one, for the first and the last ones."""
        self.assertLessEqual(low, high)
        ends = sorted({place for place in (low, low + 1, low + 2, high - 2, high - 1, high) if low <= place <= high})
        for one, other in zip(ends, ends[1:]):
            if other == one + 1:
                tones = plain_tone(receiver, dial, one), plain_tone(receiver, dial, other)
                self.assertTrue(None in tones or tones[0] == tones[1], (receiver, dial, one))

    def test_the_functions_tell_the_same_slopes(self):
        source = random.Random(21)
        for receiver, dial in great_receivers(22, 250):
            many = count_slopes(receiver, dial, 10 ** 40)
            places = [0, 1, 2, many - 2, many - 1] + [source.randrange(many) for _ in range(5) if many]
            for index in [place for place in places if 0 <= place < many]:
                slope = nth_slope(receiver, dial, index)
                self.assert_is_slope(receiver, dial, slope)
                self.assertEqual(count_slopes(receiver, dial, slope[0]), index + 1)
                self.assertIn(slope, slopes_at(receiver, dial, slope[0]))
                if slope[0]:
                    self.assertEqual(count_slopes(receiver, dial, slope[0] - 1), index)
                if slope[1] is not None:
                    self.assertIn(slope, slopes_at(receiver, dial, slope[1]))
                    self.assertNotIn(slope, slopes_at(receiver, dial, slope[1] + 1))
                behind = nth_slope(receiver, dial, index + 1)
                if behind is not None:
                    self.assert_no_slope_between(receiver, dial, slope[1], behind[0])

    def test_mixed_slopes_are_slopes(self):
        for receiver, dial in great_receivers(23, 250):
            unsampled = (receiver[0], None)
            slopes = mixed_slopes(receiver, dial)
            self.assertEqual(slopes, mixed_slopes(unsampled, dial))
            self.assertEqual(slopes, sorted(slopes, key=lambda slope: slope[0]))
            self.assertEqual(slopes, [nth_slope(unsampled, dial, index) for index in range(len(slopes))])
            for slope in slopes:
                self.assert_is_slope(unsampled, dial, slope)
            for one, other in zip(slopes, slopes[1:]):
                self.assert_no_slope_between(unsampled, dial, one[1], other[0])

    def test_windows_around_great_turns(self):
        source = random.Random(24)
        for receiver, dial in small_receivers(25, 150, (None, 2, 3, 4, 5, 10 ** 30, 10 ** 34 + 1)):
            stages = receiver[0][:7]
            moved = ([("mix", BIG + source.randint(0, 9))] + stages, receiver[1])
            expected = plain_slopes(moved, dial, BIG - 60, BIG + 60)
            whole = [slope for slope in expected if BIG - 60 < slope[0] and slope[1] < BIG + 60]
            for slope in whole:
                self.assertIn(slope, slopes_at(moved, dial, slope[0]))
                self.assertEqual(nth_slope(moved, dial, count_slopes(moved, dial, slope[0]) - 1), slope)
            for low in range(BIG - 60, BIG + 52, 7):
                begun = [slope for slope in expected if low < slope[0] <= low + 7]
                told = count_slopes(moved, dial, low + 7) - count_slopes(moved, dial, low)
                self.assertEqual(told, len(begun), (moved, dial, low))
            for signal in range(BIG - 40, BIG + 40):
                there = [slope for slope in expected if slope[0] <= signal <= slope[1]]
                self.assertEqual(len(slopes_at(moved, dial, signal)), len(there))

    def test_counts_by_the_rate(self):
        for far in (BIG, 10 ** 39, 10 ** 40 - 1):
            for half in (1, 2, 10 ** 20, 10 ** 29 + 3):
                self.assertEqual(count_slopes(([("mix", 0)], 2 * half), 0, far), far // half + 1)
                rate = 2 * half + 1
                expected = 2 * (far // rate) + (2 if far % rate > half else 1)
                self.assertEqual(count_slopes(([("mix", 0)], rate), 0, far), expected)

    def test_eight_mixers_with_all_slopes(self):
        stages = [("mix", 10 ** 36 << (8 - place)) for place in range(8)]
        slopes = mixed_slopes((stages, None), 0)
        self.assertEqual(len(slopes), 2 ** 8)
        for index, slope in enumerate(slopes):
            self.assertEqual(nth_slope((stages, None), 0, index), slope)
            self.assert_is_slope((stages, None), 0, slope)

    def test_great_indexes(self):
        self.assertEqual(nth_slope(SAMPLED, 0, 10 ** 39)[0], 2 * 10 ** 39 - 1)
        index = 10 ** 40 - 1
        slope = nth_slope(([("mix", BIG)], 10 ** 30 + 1), -3, index)
        self.assert_is_slope(([("mix", BIG)], 10 ** 30 + 1), -3, slope)
        self.assertEqual(count_slopes(([("mix", BIG)], 10 ** 30 + 1), -3, slope[0]), index + 1)


class Calls(unittest.TestCase):
    def test_errors_of_the_receiver(self):
        wrong = [(None, None), (([], 4), None), (([("mix", 5)] * 9, 4), None), (([("mix", -1)], 4), 0),
                 (([("mix", 5), ["mix", 5]], 4), 1), (([("dial", 5), ("dial", 5)], 4), 1), (([("mix", 5)], 1), 1),
                 (([("mix", 5), ("mix", 5)], True), 2)]
        for receiver, index in wrong:
            for others in [(0, 0), (None, 0), (0, None), (None, None)]:
                for call in CALLS + [lambda receiver, dial, _: mixed_slopes(receiver, dial)]:
                    with self.assertRaises(InvalidReceiver) as caught:
                        call(receiver, *others)
                    self.assertEqual(caught.exception.index, index)

    def test_errors_of_the_dial(self):
        for receiver in (PLAIN, SAMPLED, ([("dial", 0)], None)):
            for dial in WRONG_INTEGERS:
                self.assertRaises(InvalidDial, mixed_slopes, receiver, dial)
                for call, last in itertools.product(CALLS, (0, None, -1, True)):
                    self.assertRaises(InvalidDial, call, receiver, dial, last)

    def test_errors_of_the_last_argument(self):
        for receiver in (PLAIN, SAMPLED, ([("pass", 5, 5)], None)):
            for value in WRONG_NATURALS:
                self.assertRaises(InvalidSignal, slopes_at, receiver, 0, value)
                self.assertRaises(InvalidNumber, count_slopes, receiver, 0, value)
                self.assertRaises(InvalidNumber, nth_slope, receiver, -3, value)

    def test_calls_change_nothing(self):
        receiver = ([("dial", 0), ("pass", 3, 6), ("mix", 4)], 4)
        before = copy.deepcopy(receiver)
        for call, last in itertools.product(CALLS, (4, None)):
            try:
                call(receiver, 10, last)
            except (InvalidSignal, InvalidNumber):
                self.assertIsNone(last)
        mixed_slopes(receiver, 10)
        self.assertRaises(InvalidDial, mixed_slopes, receiver, None)
        self.assertEqual(receiver, before)

    def test_lists_are_new(self):
        for call in (lambda: mixed_slopes(PLAIN, 0), lambda: slopes_at(PLAIN, 0, 3)):
            told = call()
            kept = list(told)
            told.clear()
            self.assertEqual(call(), kept)
        self.assertIsInstance(mixed_slopes(PLAIN, 0)[0], tuple)

    def test_by_position_and_by_name(self):
        self.assertEqual(mixed_slopes(dial=0, receiver=PLAIN), mixed_slopes(PLAIN, 0))
        self.assertEqual(slopes_at(signal=2, dial=0, receiver=ODD), [(1, 3, 2, -1)])
        self.assertEqual(count_slopes(far=2, dial=0, receiver=SAMPLED), 2)
        self.assertEqual(nth_slope(index=0, dial=0, receiver=SAMPLED), (0, 1, 1, 1))


if __name__ == "__main__":
    unittest.main()
