"""[15]: dials at which a signal is heard in a band, against going through the dials one by one."""

import copy
import itertools
import random
import unittest

from imagetones.dials import count_dials, last_dial, next_dial
from plain import (BIG, beyond_dials, great_receivers, is_in, plain_tone, small_receivers, some_bands,
                   with_dial)
from wrong import assert_wrong_arguments, assert_wrong_order, told_error

PASSED, PLAIN = ([("dial", 0), ("pass", 3, 6), ("mix", 4)], None), ([("dial", 0)], 4)
DEEP = ([("mix", 6), ("dial", -2), ("mix", 3), ("pass", 0, 8)], 5)
UNDIALED = ([("mix", 5), ("pass", 0, 9)], 4)


class Small(unittest.TestCase):
    """All three functions for small receivers, at each dial to well beyond all turns."""

    def assert_all(self, receiver, signal, bands):
        period = receiver[1] or 0
        inner = beyond_dials(receiver, signal)
        end = inner + 3 * period + 15
        tones = {dial: plain_tone(receiver, dial, signal) for dial in range(-end, end + 1)}
        for band in bands:
            found = [dial for dial in tones if is_in(band, tones[dial])]
            self.assert_band(receiver, signal, band, found, inner + period)
            if not found:
                self.assert_none(receiver, signal, band)

    def assert_band(self, receiver, signal, band, found, end):
        where = (receiver, signal, band)
        for dial in range(-end, end + 1):
            behind = [place for place in found if place >= dial]
            upto = [place for place in found if place <= dial]
            told = next_dial(receiver, signal, band, dial)
            self.assertTrue(told == behind[0] if behind else told is None or told > end, (where, dial))
            told = last_dial(receiver, signal, band, dial)
            self.assertTrue(told == upto[-1] if upto else told is None or told < -end, (where, dial))
        for least, greatest in itertools.product(range(-end, end + 1, 7), repeat=2):
            if least <= greatest:
                many = sum(least <= place <= greatest for place in found)
                self.assertEqual(count_dials(receiver, signal, band, least, greatest), many, where)

    def assert_none(self, receiver, signal, band):
        if receiver[1] is not None or band[1] < 9:
            for dial in (-BIG, 0, BIG):
                self.assertIsNone(next_dial(receiver, signal, band, dial))
                self.assertIsNone(last_dial(receiver, signal, band, dial))
            self.assertEqual(count_dials(receiver, signal, band, -BIG, BIG), 0)

    def test_a_dial_stage_alone(self):
        for add, rate, signal in itertools.product((0, 3, -2), (None, 2, 3, 4, 5), (0, 1, 7)):
            self.assert_all(([("dial", add)], rate), signal, [(0, 0), (0, 1), (1, 1), (1, 2), (2, 2), (3, 5), (0, 9)])

    def test_many_receivers(self):
        source = random.Random(81)
        for receiver, _ in small_receivers(82, 300):
            dialed = with_dial(source, receiver)
            self.assert_all(dialed, source.randint(0, 15), some_bands(source, dialed[1], 3))


class Named(unittest.TestCase):
    """Cases that the document and its edges name."""

    def test_dials_below_0(self):
        far = ([("dial", 100)], 6)
        self.assertEqual([next_dial(far, 7, (0, 0), dial) for dial in (-93, -92, -500)], [-93, -87, -495])
        self.assertEqual([last_dial(far, 7, (0, 0), dial) for dial in (-93, -94, 0)], [-93, -99, -3])
        self.assertEqual([count_dials(far, 7, (0, 0), -99, greatest) for greatest in (-99, -94, -93, 0)], [1, 1, 2, 17])
        narrow = ([("dial", 100), ("pass", 0, 2)], None)
        self.assertEqual([next_dial(narrow, 7, (1, 2), dial) for dial in (-BIG, -94, -93, -91, -90)],
                         [-95, -94, -92, -91, None])
        self.assertEqual([last_dial(narrow, 7, (1, 2), dial) for dial in (BIG, -93, -95, -96)], [-91, -94, -95, None])

    def test_the_dial_on_the_signal_counts_once(self):
        self.assertEqual([count_dials(PLAIN, 10, (0, 0), least, greatest)
                          for least, greatest in [(10, 10), (9, 11), (11, 13), (7, 9), (6, 14)]], [1, 1, 0, 0, 3])
        self.assertEqual([next_dial(PLAIN, 10, (0, 0), 10), last_dial(PLAIN, 10, (0, 0), 10)], [10, 10])

    def test_one_dial(self):
        self.assertEqual([count_dials(PASSED, 10, (0, 1), dial, dial) for dial in (4, 5, 6, 7, 8, 13, 14, 15)],
                         [0, 1, 1, 1, 0, 1, 1, 1])

    def test_silence_ahead_of_the_dial_stage(self):
        silent = ([("pass", 3, 5), ("dial", 0), ("mix", 2)], 7)
        for signal, dial in itertools.product((0, 2, 6, BIG), (-BIG, 0, BIG)):
            self.assertIsNone(next_dial(silent, signal, (0, BIG), dial))
            self.assertIsNone(last_dial(silent, signal, (0, BIG), dial))
            self.assertEqual(count_dials(silent, signal, (0, BIG), dial, 10 ** 39), 0)
        self.assertEqual(count_dials(silent, 4, (0, BIG), -BIG, BIG), 2 * BIG + 1)

    def test_silence_behind_the_dial_stage(self):
        silent = ([("dial", 0), ("pass", 3, 5), ("pass", 6, 7)], None)
        self.assertEqual([next_dial(silent, 4, (0, BIG), -BIG), last_dial(silent, 4, (0, BIG), BIG),
                          count_dials(silent, 4, (0, BIG), -BIG, BIG)], [None, None, 0])

    def test_a_dial_stage_at_the_end(self):
        last = ([("mix", 9), ("dial", -3)], None)
        # The signal 2 is 7 away from 9, so the dial 10 takes it to 0.
        self.assertEqual([plain_tone(last, dial, 2) for dial in (8, 10, 13)], [2, 0, 3])
        self.assertEqual([next_dial(last, 2, (2, 3), dial) for dial in (-9, 8, 9, 13, 14)], [7, 8, 12, 13, None])
        self.assertEqual([last_dial(last, 2, (2, 3), dial) for dial in (99, 12, 11, 7, 6)], [13, 12, 8, 7, None])

    def test_even_and_odd_rates(self):
        for rate in (2, 4, 10, 10 ** 30):
            half = rate // 2
            receiver = ([("dial", 0)], rate)
            self.assertEqual([next_dial(receiver, 5, (half, half), dial) for dial in (5, 5 + half, 6 + half)],
                             [5 + half, 5 + half, 5 + half + rate])
            self.assertEqual(count_dials(receiver, 5, (half, half), 5 - 4 * rate, 4 + 4 * rate), 8)
        for rate in (3, 5, 11, 10 ** 30 + 1):
            half = rate // 2
            receiver = ([("dial", 0)], rate)
            self.assertEqual([next_dial(receiver, 5, (half, half), dial) for dial in (5, 6 + half, 7 + half)],
                             [5 + half, 6 + half, 5 + half + rate])
            self.assertEqual(count_dials(receiver, 5, (half, half), 5 - 4 * rate, 4 + 4 * rate), 16)

    def test_tones_above_half_the_rate(self):
        for rate in (2, 3, 8, 9, 10 ** 30):
            for band in [(rate // 2 + 1, BIG), (rate, rate), (BIG, BIG)]:
                receiver = ([("dial", 0)], rate)
                self.assertEqual([next_dial(receiver, 5, band, -BIG), last_dial(receiver, 5, band, BIG),
                                  count_dials(receiver, 5, band, -BIG, BIG)], [None, None, 0])
            self.assertEqual(count_dials(([("dial", 0)], rate), 5, (0, rate), -BIG, BIG), 2 * BIG + 1)


class Great(unittest.TestCase):
    """Numbers of 30 to 40 digits."""

    def assert_dial(self, receiver, signal, band, dial, source):
        """That the next dial is in the band, and that none of some others ahead of it is."""
        where = (receiver, signal, band, dial)
        ends = [next_dial(receiver, signal, band, dial), last_dial(receiver, signal, band, dial)]
        for found, way in zip(ends, (1, -1)):
            away = 10 ** 40 if found is None else (found - dial) * way
            self.assertGreaterEqual(away, 0, where)
            if found is not None:
                self.assertTrue(is_in(band, plain_tone(receiver, found, signal)), where)
                self.assertEqual(count_dials(receiver, signal, band, min(found, dial), max(found, dial)), 1, where)
            for steps in {0, 1, away // 2, away - 1, source.randrange(away + 1)}:
                if 0 <= steps < away:
                    self.assertFalse(is_in(band, plain_tone(receiver, dial + way * steps, signal)), where)
        return ends

    def test_the_functions_tell_the_same_dials(self):
        source = random.Random(83)
        for receiver, dial in great_receivers(84, 300):
            dialed = with_dial(source, receiver)
            signal = source.randrange(10 ** source.choice([3, 30, 39]))
            least, greatest = sorted([source.randrange(10 ** source.choice([1, 20, 30, 39])) for _ in range(2)])
            for band in [(least, greatest), (0, least), (greatest, greatest)]:
                for place in (dial, 0, -dial):
                    ends = self.assert_dial(dialed, signal, band, place, source)
                    for found in ends:
                        if found is not None:
                            self.assert_dial(dialed, signal, band, found + 1, source)
                            self.assert_dial(dialed, signal, band, found - 1, source)

    def test_counts_add_up(self):
        source = random.Random(85)
        for receiver, _ in great_receivers(86, 200):
            dialed = with_dial(source, receiver)
            signal = source.randrange(10 ** source.choice([3, 30, 39]))
            least, cut, greatest = sorted([source.randint(-10 ** 39, 10 ** 39) for _ in range(3)])
            band = (0, source.randrange(10 ** 39))
            parts = [count_dials(dialed, signal, band, least, cut), count_dials(dialed, signal, band, cut + 1, greatest)]
            self.assertEqual(sum(parts), count_dials(dialed, signal, band, least, greatest))
            heard = count_dials(dialed, signal, (0, 10 ** 41), least, greatest)
            other = count_dials(dialed, signal, (band[1] + 1, 10 ** 41), least, greatest)
            self.assertEqual(heard, other + sum(parts))

    def test_windows_around_great_dials(self):
        source = random.Random(87)
        for receiver, _ in small_receivers(88, 150):
            stages, rate = with_dial(source, receiver)
            signal = source.randint(0, 15)
            for add in (BIG, -BIG):
                far = [("dial", add + stage[1]) if stage[0] == "dial" else stage for stage in stages]
                tones = {dial: plain_tone((far, rate), dial, signal) for dial in range(-add - 40, -add + 41)}
                for band in some_bands(source, rate, 2):
                    found = [dial for dial in tones if is_in(band, tones[dial])]
                    self.assertEqual(count_dials((far, rate), signal, band, -add - 40, -add + 40), len(found))
                    for dial in range(-add - 40, -add + 41, 5):
                        behind = [place for place in found if place >= dial]
                        upto = [place for place in found if place <= dial]
                        if behind:
                            self.assertEqual(next_dial((far, rate), signal, band, dial), behind[0])
                        if upto:
                            self.assertEqual(last_dial((far, rate), signal, band, dial), upto[-1])

    def test_great_counts(self):
        wide = ([("dial", 7), ("pass", 10 ** 20, 10 ** 38)], None)
        self.assertEqual(count_dials(wide, BIG, (0, 10 ** 39), -10 ** 39, 10 ** 39), 2 * (10 ** 38 - 10 ** 20 + 1))
        self.assertEqual(count_dials(([("dial", 0)], 7), 0, (1, 2), -7 * BIG, 7 * BIG - 1), 8 * BIG)


class Calls(unittest.TestCase):
    def test_wrong_arguments(self):
        for receiver in (PASSED, PLAIN, DEEP, UNDIALED):
            for call in (next_dial, last_dial):
                assert_wrong_arguments(self, call, ["receiver", "signal", "band", "dial"], [receiver, 3, (0, 4), 7])
            assert_wrong_arguments(self, count_dials, ["receiver", "signal", "band", "dial", "dial"],
                                   [receiver, 3, (0, 4), -7, 9])

    def test_a_greatest_dial_below_the_least_one(self):
        for receiver in (PASSED, DEEP, UNDIALED):
            assert_wrong_order(self, count_dials, ["receiver", "signal", "band"], [receiver, 3, (0, 4)])
            if receiver != UNDIALED:
                self.assertIsNone(told_error(count_dials, (receiver, 3, (0, 4), -5, -5)))

    def test_a_dial_stage_that_is_not_there(self):
        for receiver in (UNDIALED, ([("pass", 5, 6)], None), ([("mix", 0)] * 8, 2)):
            for signal in (0, 5, BIG):
                for call in (next_dial, last_dial):
                    self.assertEqual(told_error(call, (receiver, signal, (0, 4), 7)), ("Impossible", None))
                self.assertEqual(told_error(count_dials, (receiver, signal, (0, 4), 7, 7)), ("Impossible", None))

    def test_calls_change_nothing(self):
        receiver = ([("mix", 6), ("dial", -2), ("mix", 3)], 5)
        before = copy.deepcopy(receiver)
        for dial in (4, -BIG, None):
            answers = [told_error(call, (receiver, 9, (0, 1), dial)) or call(receiver, 9, (0, 1), dial)
                       for call in (next_dial, last_dial, next_dial, last_dial)]
            self.assertEqual(answers[:2], answers[2:])
            told_error(count_dials, (receiver, 9, (0, 1), dial, BIG))
        self.assertEqual(receiver, before)

    def test_by_position_and_by_name(self):
        self.assertEqual(next_dial(dial=7, band=(0, 0), signal=10, receiver=PASSED), 14)
        self.assertEqual(last_dial(dial=100, band=(1, 2), signal=10, receiver=PASSED), 16)
        self.assertEqual(count_dials(greatest=9, least=-100, band=(0, 1), signal=10, receiver=PASSED), 3)


if __name__ == "__main__":
    unittest.main()
