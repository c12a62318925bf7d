"""[17]: scans, against going through them index by index."""

import copy
import itertools
import random
import unittest

from imagetones.dials import count_dials, next_dial
from imagetones.scans import count_stops, first_stop, heard_there
from plain import BIG, beyond_dials, great_receivers, is_in, plain_tone, small_receivers, some_bands, with_dial
from wrong import WRONG, assert_wrong_arguments, told_error

PASSED, PLAIN = ([("dial", 0), ("pass", 3, 6), ("mix", 4)], None), ([("dial", 0)], 7)
DEEP = ([("mix", 6), ("dial", -2), ("mix", 3), ("pass", 0, 8)], 5)
UNDIALED = ([("mix", 5), ("pass", 0, 9)], 4)


def plain_there(receiver, signals, band, dial):
    return [index for index, signal in enumerate(signals) if is_in(band, plain_tone(receiver, dial, signal))]


def plain_stops(receiver, signals, band, dial, step, many):
    """The indexes below a number of them at which a scan stops."""
    return [index for index in range(many) if plain_there(receiver, signals, band, dial + index * step)]


def beyond_scan(receiver, signals, band, dial, step):
    """A number of indexes behind which a scan stops as it did ahead of it, or no more."""
    # Beyond all turns, and all dials with a tone in the band if there is no sampler, the rate alone counts.
    inner = max(beyond_dials(receiver, signal) for signal in signals) + band[1]
    return (abs(dial) + inner) // abs(step) + 2 + (receiver[1] or 0)


class Small(unittest.TestCase):
    def assert_all(self, receiver, signals, band, dial, step):
        where = (receiver, signals, band, dial, step)
        many = beyond_scan(receiver, signals, band, dial, step)
        found = plain_stops(receiver, signals, band, dial, step, many)
        self.assertEqual(first_stop(receiver, signals, band, dial, step), found[0] if found else None, where)
        for upto in {0, 1, 2, many // 3, many // 2, many}:
            told = count_stops(receiver, signals, band, dial, step, upto)
            self.assertEqual(told, len([index for index in found if index < upto]), where)
        for index in (0, 1, many // 2, many - 1):
            place = dial + index * step
            self.assertEqual(heard_there(receiver, signals, band, place),
                             plain_there(receiver, signals, band, place), where)
        return bool(found)

    def test_a_dial_stage_alone(self):
        for add, rate, step in itertools.product((0, -2), (None, 2, 3, 4, 5, 6), (1, 2, 3, 5, 6, -1, -4, -5)):
            for band in [(0, 0), (1, 1), (1, 2), (3, 9)]:
                self.assert_all(([("dial", add)], rate), [3, 7], band, 1, step)

    def test_many_receivers(self):
        source = random.Random(171)
        found = []
        for receiver, dial in small_receivers(172, 500):
            dialed = with_dial(source, receiver)
            signals = [source.randint(0, 15) for _ in range(source.randint(1, 4))]
            for band in some_bands(source, dialed[1], 2):
                step = source.choice([1, -1, 2, 3, -4, 5, 7, -11, dialed[1] or 6, -2 * (dialed[1] or 6)])
                found.append(self.assert_all(dialed, signals, band, dial, step))
        self.assertGreater(found.count(True), 300)
        self.assertGreater(found.count(False), 100)

    def test_great_steps(self):
        source = random.Random(173)
        for receiver, dial in small_receivers(174, 150):
            dialed = with_dial(source, receiver)
            signals = [source.randint(0, 15) for _ in range(source.randint(1, 4))]
            for band, step in zip(some_bands(source, dialed[1], 3), (10 ** 20, -10 ** 20, 10 ** 39 - 1)):
                self.assert_all(dialed, signals, band, dial, step)

    def test_steps_of_1_are_dials(self):
        source = random.Random(175)
        for receiver, dial in small_receivers(176, 100):
            dialed = with_dial(source, receiver)
            signal, band = source.randint(0, 15), some_bands(source, dialed[1], 1)[0]
            found = next_dial(dialed, signal, band, dial)
            self.assertEqual(first_stop(dialed, [signal], band, dial, 1), None if found is None else found - dial)
            self.assertEqual(count_stops(dialed, [signal], band, dial, 1, 77),
                             count_dials(dialed, signal, band, dial, dial + 76))


class Named(unittest.TestCase):
    """Cases that the document and its edges name."""

    def test_many_of_0(self):
        for receiver, step in itertools.product((PASSED, PLAIN, DEEP), (1, -1, 10 ** 20)):
            self.assertEqual(count_stops(receiver, [10, 12], (0, 9), 6, step, 0), 0)

    def test_the_first_index_is_0(self):
        self.assertEqual([plain_tone(PASSED, 6, 10), plain_tone(PASSED, 7, 10)], [0, 1])
        for step in (1, -1, 5, -10 ** 20):
            self.assertEqual(first_stop(PASSED, [10], (0, 0), 6, step), 0)
            self.assertEqual(count_stops(PASSED, [10], (0, 0), 6, step, 1), 1)

    def test_steps_below_0(self):
        # The signal 10 has the tone 0 at the dials 6 and 14.
        self.assertEqual([first_stop(PASSED, [10], (0, 0), dial, -4) for dial in (26, 14, 10, 5, 7)],
                         [3, 0, 1, None, None])
        self.assertEqual([count_stops(PASSED, [10], (0, 0), 26, -4, many) for many in (3, 4, 5, 6, BIG)],
                         [0, 1, 1, 2, 2])
        self.assertEqual([first_stop(PLAIN, [0], (0, 0), -1, step) for step in (-3, -10 ** 20)], [2, 3])

    def test_a_signal_may_stand_more_than_once(self):
        self.assertEqual(heard_there(PASSED, [10, 12, 10, 10], (0, 1), 6), [0, 2, 3])
        self.assertEqual(heard_there(PASSED, [12, 12], (0, 0), 8), [0, 1])
        for signals in ([10, 10], [10, 12, 10, 12]):
            once = sorted(set(signals))
            self.assertEqual(first_stop(PASSED, signals, (0, 1), 0, 4), first_stop(PASSED, once, (0, 1), 0, 4))
            for step in (1, 3, -2):
                self.assertEqual(count_stops(PASSED, signals, (0, 1), 20, step, 30),
                                 count_stops(PASSED, once, (0, 1), 20, step, 30))

    def test_two_signals_at_one_index_stop_it_once(self):
        # At the dial 7 the signals 10 and 12 have the tone 1 both.
        self.assertEqual([count_stops(PASSED, signals, (1, 1), 7, 1, 1) for signals in ([10], [12], [10, 12])], [1] * 3)

    def test_no_stop_at_all(self):
        self.assertIsNone(first_stop(PASSED, [10, 12], (7, 99), 0, 1))
        self.assertIsNone(first_stop(([("dial", 0)], 6), [0, 1], (0, 1), 3, 6))
        self.assertEqual(count_stops(([("dial", 0)], 6), [0, 1], (0, 1), 3, -6, BIG), 0)
        silent = ([("pass", 3, 5), ("dial", 0)], 4)
        self.assertIsNone(first_stop(silent, [2, 6], (0, BIG), 0, 1))
        self.assertEqual(count_stops(silent, [2, 6], (0, BIG), 0, 1, BIG), 0)
        self.assertEqual(heard_there(silent, [2, 6, 4], (0, BIG), 0), [2])

    def test_bands_at_half_the_rate(self):
        for rate in (2, 4, 10, 3, 5, 11):
            receiver, half = ([("dial", 0)], rate), rate // 2
            many = 1 if rate % 2 == 0 else 2
            self.assertEqual(first_stop(receiver, [5], (half, half), 5, 1), half)
            self.assertEqual(count_stops(receiver, [5], (half, half), 5, 1, 10 * rate), 10 * many)
            self.assertIsNone(first_stop(receiver, [5, 6], (half + 1, BIG), 5, 1))
            self.assertEqual(count_stops(receiver, [5, 6], (half + 1, BIG), 5, -1, BIG), 0)
            self.assertEqual(count_stops(receiver, [5, 6], (0, half), 5, -3, BIG), BIG)

    def test_steps_that_share_a_divisor_with_the_rate(self):
        receiver = ([("dial", 0)], 12 * 10 ** 28)
        # From the dial 1 by steps of 4 only remainders of 1 by 4 are reached, and tones of 1 and 3 by 4 made.
        self.assertIsNone(first_stop(receiver, [0], (2, 2), 1, 4))
        self.assertEqual(first_stop(receiver, [0], (3, 3), 1, 4), 3 * 10 ** 28 - 1)
        self.assertEqual(first_stop(receiver, [0], (3, 3), 1, -4), 1)
        self.assertEqual(count_stops(receiver, [0], (0, 9), 1, 4, 12 * 10 ** 28), 20)


class Great(unittest.TestCase):
    """Numbers of 30 to 40 digits."""

    def scans(self, seed, many):
        source = random.Random(seed)
        for receiver, dial in great_receivers(seed + 1, many):
            dialed = with_dial(source, receiver)
            signals = [source.randrange(10 ** source.choice([3, 30, 39])) for _ in range(source.randint(1, 4))]
            step = source.choice([1, -1]) * source.randrange(1, 10 ** source.choice([1, 10, 20, 37, 39]))
            low = source.randrange(10 ** source.choice([1, 20, 30, 39]))
            band = (low, low + source.randrange(10 ** source.choice([1, 20, 29, 39])))
            yield source, dialed, signals, band, dial, step

    def test_the_first_stop_is_one_and_the_first(self):
        many_found = 0
        for source, receiver, signals, band, place, step in self.scans(177, 400):
            for dial in (place, 0, signals[0]):
                found = first_stop(receiver, signals, band, dial, step)
                many_found += found is not None
                away = 10 ** 40 if found is None else found
                if found is not None:
                    self.assertTrue(plain_there(receiver, signals, band, dial + found * step))
                self.assertEqual(count_stops(receiver, signals, band, dial, step, away), 0)
                for index in {0, 1, away // 2, away - 1, source.randrange(away + 1)}:
                    if 0 <= index < away:
                        self.assertFalse(plain_there(receiver, signals, band, dial + index * step))
        self.assertGreater(many_found, 200)

    def test_counts_add_up(self):
        for source, receiver, signals, band, dial, step in self.scans(179, 200):
            cut, many = sorted([source.randrange(10 ** source.choice([2, 19, 39])) for _ in range(2)])
            told = count_stops(receiver, signals, band, dial, step, many)
            parts = [count_stops(receiver, signals, band, dial, step, cut),
                     count_stops(receiver, signals, band, dial + cut * step, step, many - cut)]
            self.assertEqual(sum(parts), told)
            # From the other end, the same dials are reached.
            if many > 0:
                last = dial + (many - 1) * step
                self.assertEqual(count_stops(receiver, signals, band, last, -step, many), told)

    def test_counts_of_a_few(self):
        for _, receiver, signals, band, dial, step in self.scans(181, 200):
            found = plain_stops(receiver, signals, band, dial, step, 30)
            self.assertEqual(count_stops(receiver, signals, band, dial, step, 30), len(found))
            first = first_stop(receiver, signals, band, dial, step)
            self.assertTrue(first == found[0] if found else first is None or first >= 30)

    def test_windows_around_great_dials(self):
        source = random.Random(183)
        for receiver, _ in small_receivers(184, 150):
            stages, rate = with_dial(source, receiver)
            signals = [source.randint(0, 15) for _ in range(3)]
            band, step = some_bands(source, rate, 1)[0], source.choice([1, -2, 3, -7])
            for add in (BIG, -BIG):
                far = ([("dial", add + stage[1]) if stage[0] == "dial" else stage for stage in stages], rate)
                dial = -add + (-40 if step > 0 else 40)
                found = plain_stops(far, signals, band, dial, step, 40)
                self.assertEqual(count_stops(far, signals, band, dial, step, 40), len(found))
                if found:
                    self.assertEqual(first_stop(far, signals, band, dial, step), found[0])

    def test_all_slopes_of_eight_stages(self):
        for rate in (None, 10 ** 20 + 39, 3 * 10 ** 37):
            receiver = ([("dial", 0)] + [("mix", 10 ** 36 << (6 - place)) for place in range(7)], rate)
            half = 10 ** 36 if rate is None else rate // 2
            for source, _, signals, _, _, step in self.scans(185, 6):
                band = (half // 2, half // 2 + source.randrange(half // 5))
                many = 10 ** 40
                told = [count_stops(receiver, signals, some, -10 ** 38, step, many) for some in (band, (0, 10 ** 40))]
                self.assertLessEqual(told[0], told[1])
                first = first_stop(receiver, signals, band, -10 ** 38, step)
                if first is not None:
                    self.assertEqual(count_stops(receiver, signals, band, -10 ** 38, step, first), 0)
                    self.assertEqual(count_stops(receiver, signals, band, -10 ** 38, step, first + 1), 1)


class Calls(unittest.TestCase):
    def test_wrong_arguments(self):
        for receiver in (PASSED, PLAIN, DEEP, UNDIALED):
            right = [receiver, [10, 12], (0, 1), 7]
            kinds = ["receiver", "signals", "band", "dial"]
            assert_wrong_arguments(self, heard_there, kinds, right)
            assert_wrong_arguments(self, first_stop, kinds + ["step"], right + [-2])
            assert_wrong_arguments(self, count_stops, kinds + ["step", "number"], right + [-2, 9])

    def test_a_dial_stage_that_is_not_there(self):
        for receiver in (UNDIALED, ([("pass", 5, 6)], None), ([("mix", 0)] * 8, 2)):
            arguments = (receiver, [10, 10], (0, 1), 7)
            self.assertEqual(told_error(heard_there, arguments), ("Impossible", None))
            self.assertEqual(told_error(first_stop, arguments + (1,)), ("Impossible", None))
            self.assertEqual(told_error(count_stops, arguments + (1, 0)), ("Impossible", None))

    def test_calls_change_nothing(self):
        receiver, signals = ([("mix", 6), ("dial", -2), ("mix", 3)], 5), [12, 3, 12]
        before = copy.deepcopy((receiver, signals))
        arguments = (receiver, signals, (0, 1), -7)
        first = [first_stop(*arguments, 3), count_stops(*arguments, 3, 50), heard_there(*arguments)]
        for value, told in WRONG["step"]:
            self.assertEqual(told_error(first_stop, arguments + (value,)), told)
            self.assertEqual(told_error(count_stops, arguments + (value, None)), told)
        self.assertEqual([first_stop(*arguments, 3), count_stops(*arguments, 3, 50), heard_there(*arguments)], first)
        self.assertEqual((receiver, signals), before)

    def test_returned_lists_are_new(self):
        arguments = (PASSED, [12, 30, 10], (0, 1), 7)
        told = heard_there(*arguments)
        told.append(99)
        self.assertEqual(heard_there(*arguments), [0, 2])
        self.assertIsNot(heard_there(*arguments), heard_there(*arguments))

    def test_by_position_and_by_name(self):
        self.assertEqual(first_stop(step=4, dial=0, band=(0, 0), signals=[10, 12], receiver=PASSED), 2)
        self.assertEqual(count_stops(many=7, step=1, dial=0, band=(0, 1), signals=[10, 12], receiver=PASSED), 2)
        self.assertEqual(heard_there(dial=7, band=(0, 1), signals=[12, 30, 10], receiver=PASSED), [0, 2])


if __name__ == "__main__":
    unittest.main()
