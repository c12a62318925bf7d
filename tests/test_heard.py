"""[11]: the signals that are heard in a band, against going through them one by one."""

import copy
import itertools
import random
import unittest

from imagetones.heard import count_heard, last_heard, next_heard, nth_heard
from plain import BIG, beyond_turns, great_receivers, is_in, moved_far, plain_tone, small_receivers, some_bands
from wrong import assert_wrong_arguments, told_error

PLAIN, SAMPLED = ([("mix", 5), ("mix", 2)], None), ([("mix", 5), ("mix", 2)], 4)
TUNED = ([("dial", 0), ("pass", 3, 6), ("mix", 4)], None)
SILENT = ([("pass", 3, 5), ("mix", 9), ("pass", 0, 2)], None)
CALLS = {next_heard: "signal", last_heard: "signal", count_heard: "number", nth_heard: "number"}


class Small(unittest.TestCase):
    """All four functions for small receivers, at each signal to well beyond all turns."""

    def assert_all(self, receiver, dial, bands):
        period = receiver[1] or 0
        end = beyond_turns(receiver, dial) + 3 * period + 15
        tones = [plain_tone(receiver, dial, signal) for signal in range(end + 1)]
        for band in bands:
            found = [signal for signal, tone in enumerate(tones) if is_in(band, tone)]
            # Beyond all turns the tones of a sampler come again with its rate.
            is_endless = period > 0 and bool(found) and found[-1] > end - period
            if period == 0 and tones[-1] is not None and tones[-1] <= band[1]:
                is_endless = True
            self.assert_band(receiver, dial, band, found, end - period if is_endless else end, is_endless)

    def assert_band(self, receiver, dial, band, found, end, is_endless):
        where = (receiver, dial, band)
        for signal in range(end + 1):
            behind = [place for place in found if place >= signal]
            upto = [place for place in found if place <= signal]
            if behind or not is_endless:
                self.assertEqual(next_heard(receiver, dial, band, signal), behind[0] if behind else None, where)
            self.assertEqual(last_heard(receiver, dial, band, signal), upto[-1] if upto else None, where)
            self.assertEqual(count_heard(receiver, dial, band, signal), len(upto), where)
        told = [nth_heard(receiver, dial, band, index) for index in range(len(found))]
        self.assertEqual(told, found, where)
        if not is_endless:
            for index in (len(found), len(found) + 1, 10 ** 30):
                self.assertIsNone(nth_heard(receiver, dial, band, index), where)
            self.assertIsNone(next_heard(receiver, dial, band, BIG), where)
            self.assertEqual(last_heard(receiver, dial, band, BIG), found[-1] if found else None, where)
            self.assertEqual(count_heard(receiver, dial, band, BIG), len(found), where)

    def test_all_receivers_with_one_stage(self):
        stages = [("mix", 0), ("mix", 1), ("mix", 6), ("dial", 0), ("dial", 3), ("pass", 0, 0), ("pass", 0, 1),
                  ("pass", 2, 9), ("pass", 5, 5)]
        bands = [(0, 0), (0, 1), (1, 1), (1, 2), (2, 2), (3, 3), (2, 5), (0, 9)]
        for stage, rate, dial in itertools.product(stages, (None, 2, 3, 4, 5, 6), (-4, 5)):
            self.assert_all(([stage], rate), dial, bands)

    def test_many_receivers(self):
        source = random.Random(41)
        for receiver, dial in small_receivers(42, 400):
            self.assert_all(receiver, dial, some_bands(source, receiver[1], 4))


class Named(unittest.TestCase):
    """Cases that the document and its edges name."""

    def test_no_signal_is_heard(self):
        self.assertIsNone(plain_tone(SILENT, 0, 4))
        for rate in (None, 2, 7):
            receiver = (SILENT[0], rate)
            for signal in (0, 4, BIG):
                self.assertIsNone(next_heard(receiver, 0, (0, BIG), signal))
                self.assertIsNone(last_heard(receiver, 0, (0, BIG), signal))
                self.assertEqual(count_heard(receiver, 0, (0, BIG), signal), 0)
                self.assertIsNone(nth_heard(receiver, 0, (0, BIG), signal))

    def test_the_last_index_and_the_one_behind_it(self):
        self.assertEqual([nth_heard(PLAIN, 0, (0, 1), index) for index in (5, 6, 7)], [8, None, None])
        wide = ([("pass", 7, 10 ** 39)], None)
        last = 10 ** 39 - 7
        self.assertEqual([nth_heard(wide, 0, (0, BIG ** 2), index) for index in (0, last, last + 1)],
                         [7, 10 ** 39, None])

    def test_the_ends_of_a_band_are_in_it(self):
        straight = ([("mix", 0)], None)
        self.assertEqual([count_heard(straight, 0, (3, 5), far) for far in range(8)], [0, 0, 0, 1, 2, 3, 3, 3])
        self.assertEqual([next_heard(straight, 0, (3, 5), signal) for signal in range(7)], [3, 3, 3, 3, 4, 5, None])
        self.assertEqual([last_heard(straight, 0, (3, 5), signal) for signal in range(1, 8)],
                         [None, None, 3, 4, 5, 5, 5])

    def test_even_and_odd_rates(self):
        tones = {2: [0, 1, 0, 1, 0, 1, 0], 3: [0, 1, 1, 0, 1, 1, 0], 4: [0, 1, 2, 1, 0, 1, 2],
                 5: [0, 1, 2, 2, 1, 0, 1]}
        for rate, made in tones.items():
            for tone in range(4):
                found = [nth_heard(([("mix", 0)], rate), 0, (tone, tone), index) for index in range(2)]
                expected = [signal for signal, there in enumerate(made) if there == tone][:2]
                self.assertEqual(found, expected or [None, None])

    def test_the_tones_0_and_half_the_rate_come_once_in_a_period(self):
        for rate in (2, 4, 10, 10 ** 30):
            receiver = ([("mix", 0)], rate)
            half = rate // 2
            for band, first in [((0, 0), 0), ((half, half), half)]:
                self.assertEqual([nth_heard(receiver, 0, band, index) for index in (0, 1, 10 ** 9)],
                                 [first, first + rate, first + rate * 10 ** 9])
                self.assertEqual(count_heard(receiver, 0, band, 10 * rate - 1), 10)
        odd = ([("mix", 0)], 10 ** 30 + 1)
        half = 10 ** 30 // 2
        self.assertEqual([nth_heard(odd, 0, (half, half), index) for index in range(3)],
                         [half, half + 1, 10 ** 30 + 1 + half])

    def test_tones_above_half_the_rate(self):
        for rate in (2, 3, 8, 9, 10 ** 30):
            receiver = ([("mix", 5)], rate)
            for band in [(rate // 2 + 1, BIG), (rate, rate), (rate + 1, rate + 1), (BIG, BIG)]:
                self.assertIsNone(next_heard(receiver, 0, band, 0))
                self.assertIsNone(last_heard(receiver, 0, band, BIG))
                self.assertEqual(count_heard(receiver, 0, band, BIG), 0)
                self.assertIsNone(nth_heard(receiver, 0, band, 0))
            # All signals are in a band that reaches beyond half the rate.
            self.assertEqual(count_heard(receiver, 0, (0, rate * 3), BIG), BIG + 1)
            self.assertEqual(nth_heard(receiver, 0, (0, rate // 2), BIG), BIG)

    def test_a_signal_that_two_slopes_share_counts_once(self):
        for rate in (None, 4, 5, 10):
            receiver = ([("mix", 5), ("mix", 2)], rate)
            self.assertEqual([count_heard(receiver, 0, (0, 0), far) for far in (2, 3, 4)], [0, 1, 1])
            self.assertEqual([nth_heard(receiver, 0, (0, 99), index) for index in range(12)], list(range(12)))

    def test_signals_heard_alone(self):
        alone = ([("mix", 9), ("pass", 3, 3)], 5)
        self.assertEqual([nth_heard(alone, 0, (2, 2), index) for index in range(3)], [6, 12, None])
        turn = ([("mix", 9), ("pass", 0, 0)], None)
        self.assertEqual([nth_heard(turn, 0, (0, 0), index) for index in range(2)], [9, None])
        self.assertEqual(count_heard(turn, 0, (0, 0), BIG), 1)

    def test_the_dial_plays_a_part_with_a_dial_stage_only(self):
        self.assertEqual([next_heard(TUNED, dial, (0, 0), 0) for dial in (10, -3, -5)], [6, 1, None])
        self.assertEqual([next_heard(PLAIN, dial, (0, 0), 0) for dial in (10, -3, -BIG)], [3, 3, 3])


class Great(unittest.TestCase):
    """Numbers of 30 to 40 digits."""

    def test_the_functions_tell_the_same_signals(self):
        source = random.Random(43)
        for receiver, dial in great_receivers(44, 250):
            ends = sorted([source.randrange(10 ** source.choice([1, 20, 30, 39])) for _ in range(2)])
            for band in [(0, 10 ** 40 - 1), (ends[0], ends[1]), (ends[1], ends[1])]:
                many = count_heard(receiver, dial, band, 10 ** 40 - 1)
                places = [0, 1, many - 2, many - 1] + [source.randrange(many) for _ in range(5) if many]
                for index in {place for place in places if 0 <= place < many}:
                    self.assert_place(receiver, dial, band, index)
                if many == 0:
                    self.assertIsNone(last_heard(receiver, dial, band, 10 ** 40 - 1))

    def assert_place(self, receiver, dial, band, index):
        where = (receiver, dial, band, index)
        signal = nth_heard(receiver, dial, band, index)
        self.assertTrue(is_in(band, plain_tone(receiver, dial, signal)), where)
        self.assertEqual(count_heard(receiver, dial, band, signal), index + 1, where)
        self.assertEqual(next_heard(receiver, dial, band, signal), signal, where)
        self.assertEqual(last_heard(receiver, dial, band, signal), signal, where)
        behind = nth_heard(receiver, dial, band, index + 1)
        self.assertEqual(next_heard(receiver, dial, band, signal + 1), behind, where)
        if signal > 0:
            self.assertEqual(count_heard(receiver, dial, band, signal - 1), index, where)
            ahead = nth_heard(receiver, dial, band, index - 1) if index else None
            self.assertEqual(last_heard(receiver, dial, band, signal - 1), ahead, where)
        last = BIG * 10 ** 5 if behind is None else behind
        for between in (signal + 1, (signal + last) // 2, last - 1):
            if signal < between < last:
                self.assertFalse(is_in(band, plain_tone(receiver, dial, between)), where)

    def test_windows_around_great_turns(self):
        source = random.Random(45)
        for receiver, dial in small_receivers(46, 120, (None, 2, 3, 4, 5, 8, 9)):
            moved = moved_far(source, receiver)
            low, high = BIG - 50, BIG + 50
            tones = {signal: plain_tone(moved, dial, signal) for signal in range(low, high + 1)}
            for band in some_bands(source, receiver[1], 3):
                found = [signal for signal, tone in tones.items() if is_in(band, tone)]
                ahead = count_heard(moved, dial, band, low - 1)
                for index, signal in enumerate(found):
                    self.assertEqual(nth_heard(moved, dial, band, ahead + index), signal)
                for signal in range(low, high + 1, 5):
                    upto = [place for place in found if place <= signal]
                    self.assertEqual(count_heard(moved, dial, band, signal), ahead + len(upto))
                    if upto:
                        self.assertEqual(last_heard(moved, dial, band, signal), upto[-1])
                    behind = [place for place in found if place >= signal]
                    if behind:
                        self.assertEqual(next_heard(moved, dial, band, signal), behind[0])

    def test_counts_by_the_rate(self):
        for rate, least, greatest in [(10 ** 30, 5, 10 ** 20), (10 ** 30 + 1, 0, 10 ** 20), (7, 1, 2), (6, 0, 1)]:
            size = 2 * (greatest - least + 1) - (1 if least == 0 else 0)
            for times in (1, 3, 10 ** 9):
                told = count_heard(([("mix", 0)], rate), 0, (least, greatest), times * rate - 1)
                self.assertEqual(told, times * size)

    def test_bands_side_by_side_add_up(self):
        source = random.Random(47)
        for receiver, dial in great_receivers(48, 120):
            far = source.randrange(10 ** 40)
            cut = source.randrange(10 ** source.choice([10, 29, 39]))
            parts = [count_heard(receiver, dial, band, far) for band in [(0, cut), (cut + 1, 10 ** 41)]]
            self.assertEqual(sum(parts), count_heard(receiver, dial, (0, 10 ** 41), far))

    def test_eight_mixers_with_all_slopes(self):
        receiver = ([("mix", 10 ** 36 << (8 - place)) for place in range(8)], None)
        band = (1, 10 ** 36 - 1)
        self.assertEqual(count_heard(receiver, 0, band, 10 ** 40), 2 ** 8 * (10 ** 36 - 1))
        for index in (0, 10 ** 36 - 2, 10 ** 36 - 1, 10 ** 38, 2 ** 8 * (10 ** 36 - 1) - 1):
            self.assert_place(receiver, 0, band, index)
        self.assertIsNone(nth_heard(receiver, 0, band, 2 ** 8 * (10 ** 36 - 1)))


class Calls(unittest.TestCase):
    def test_wrong_arguments(self):
        for receiver in (PLAIN, SAMPLED, TUNED, SILENT):
            for call, kind in CALLS.items():
                assert_wrong_arguments(self, call, ["receiver", "dial", "band", kind], [receiver, 3, (0, 4), 7])

    def test_right_arguments_at_their_ends_raise_nothing(self):
        for call in CALLS:
            for band in [(0, 0), (BIG, BIG), (0, BIG)]:
                self.assertIsNone(told_error(call, (TUNED, -BIG, band, 0)))

    def test_calls_change_nothing(self):
        receiver = ([("dial", 0), ("pass", 3, 6), ("mix", 4)], 4)
        before = copy.deepcopy(receiver)
        for call, last in itertools.product(CALLS, (4, None)):
            first = told_error(call, (receiver, 10, (0, 2), last)) or call(receiver, 10, (0, 2), last)
            again = told_error(call, (receiver, 10, (0, 2), last)) or call(receiver, 10, (0, 2), last)
            self.assertEqual(first, again)
        self.assertEqual(receiver, before)

    def test_answers_follow_the_receiver_that_is_passed(self):
        receiver = ([("mix", 5)], None)
        self.assertEqual(next_heard(receiver, 0, (0, 0), 0), 5)
        receiver[0].append(("mix", 2))
        self.assertEqual(next_heard(receiver, 0, (0, 0), 0), 3)

    def test_by_position_and_by_name(self):
        self.assertEqual(next_heard(signal=4, band=(0, 0), dial=0, receiver=SAMPLED), 7)
        self.assertEqual(last_heard(signal=6, band=(0, 0), dial=0, receiver=SAMPLED), 3)
        self.assertEqual(count_heard(far=7, band=(0, 0), dial=0, receiver=SAMPLED), 2)
        self.assertEqual(nth_heard(index=1, band=(0, 0), dial=0, receiver=SAMPLED), 7)


if __name__ == "__main__":
    unittest.main()
