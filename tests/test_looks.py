"""[18], [19]: signals that fit looks, and clashing looks, against going through the signals one by one."""

import copy
import itertools
import random
import unittest

from imagetones.heard import count_heard, next_heard, nth_heard
from imagetones.looks import clashing_looks, count_fits, next_fit, nth_fit
from plain import (BIG, beyond_turns, fits_looks, great_receivers, moved_far, plain_tone, small_receivers,
                   some_bands, with_dial)
from wrong import WRONG, assert_wrong_arguments, told_error

PASSED, PLAIN = ([("dial", 0), ("pass", 3, 6), ("mix", 4)], None), ([("dial", 0)], 4)
UNDIALED = ([("mix", 5), ("pass", 0, 9)], 4)
CALLS = {next_fit: "signal", count_fits: "number", nth_fit: "number"}


def some_look(source, receiver, signal):
    """A look at some small dial: one that a signal fits, or any."""
    dial = source.randint(-6, 12)
    way = source.randrange(5)
    if way == 0:
        return (dial, None, None)
    tone = plain_tone(receiver, dial, signal)
    if way < 4:
        least = None if tone is None else max(0, tone - source.choice([0, 0, 1, 2]))
        return (dial, least, None if tone is None else tone + way - 1)
    return (dial,) + some_bands(source, receiver[1], 1)[0]


def plain_fits(receiver, looks):
    """The fitting signals up to an end, and this end, behind which they come again by the rate, or no more or all."""
    rate = receiver[1] or 1
    # Without a sampler the tones are above all bands, and all go on alike, beyond the greatest tone that is asked for.
    asked = max([look[2] or 0 for look in looks]) if receiver[1] is None else 0
    turns = max(beyond_turns(receiver, look[0]) for look in looks) + asked + 1
    far = sum([abs(look[0]) for look in looks])
    end = turns + far + 2 * rate
    return [signal for signal in range(end + 1) if fits_looks(receiver, looks, signal)], end


class Small(unittest.TestCase):
    def assert_all(self, receiver, looks):
        where = (receiver, looks)
        found, end = plain_fits(receiver, looks)
        rate = receiver[1] or 1
        is_endless = any(signal > end - rate for signal in found)
        told = [nth_fit(receiver, looks, index) for index in range(len(found) + 1)]
        self.assertEqual(told[:-1], found, where)
        self.assertTrue(told[-1] > end if is_endless else told[-1] is None, where)
        for signal in range(0, end + 1, 1 if end < 50 else 3):
            upto = [place for place in found if place <= signal]
            behind = [place for place in found if place >= signal]
            self.assertEqual(count_fits(receiver, looks, signal), len(upto), where)
            if behind or not is_endless:
                self.assertEqual(next_fit(receiver, looks, signal), behind[0] if behind else None, where)
        self.assert_clash(receiver, looks, found)
        return bool(found)

    def assert_clash(self, receiver, looks, found):
        where = (receiver, looks)
        told = clashing_looks(receiver, looks)
        if found:
            self.assertIsNone(told, where)
            return
        self.assertEqual(told, sorted(set(told)), where)
        self.assertTrue(told and all(index in range(len(looks)) for index in told), where)
        self.assertEqual(plain_fits(receiver, [looks[index] for index in told])[0], [], where)
        for index in told:
            others = [looks[other] for other in told if other != index]
            self.assertTrue(not others or plain_fits(receiver, others)[0], where)

    def test_many_receivers(self):
        source = random.Random(181)
        found = []
        for receiver, _ in small_receivers(182, 700):
            dialed = with_dial(source, receiver) if source.random() < 0.9 else receiver
            signal = source.randint(0, 20)
            looks = [some_look(source, dialed, signal) for _ in range(source.choice([1, 2, 2, 3, 4, 6]))]
            found.append(self.assert_all(dialed, looks))
        self.assertGreater(found.count(True), 200)
        self.assertGreater(found.count(False), 150)

    def test_a_dial_stage_alone(self):
        for rate in (None, 2, 3, 4, 5, 6):
            for one, other in itertools.product([(0, 0), (1, 1), (0, 1), (2, 2), (1, 2), (None, None)], repeat=2):
                for dial in (-3, 0, 2, 7):
                    self.assert_all(([("dial", 0)], rate), [(2,) + one, (dial,) + other])

    def test_one_look_is_a_band(self):
        source = random.Random(183)
        for receiver, dial in small_receivers(184, 150):
            for band in some_bands(source, receiver[1], 2):
                looks, far = [(dial,) + band], source.randint(0, 60)
                self.assertEqual(count_fits(receiver, looks, far), count_heard(receiver, dial, band, far))
                self.assertEqual(next_fit(receiver, looks, far), next_heard(receiver, dial, band, far))
                self.assertEqual(nth_fit(receiver, looks, far), nth_heard(receiver, dial, band, far))


class Named(unittest.TestCase):
    """Cases that the document and its edges name."""

    def test_looks_of_silence(self):
        silence = [(10, None, None)]
        self.assertEqual([nth_fit(PASSED, silence, index) for index in range(12)],
                         [0, 1, 2, 3, 8, 9, 10, 11, 12, 17, 18, 19])
        self.assertEqual([nth_fit(PASSED, silence, BIG), count_fits(PASSED, silence, BIG)], [BIG + 8, BIG - 7])
        # Without a pass nothing is silent, and with a sampler silence is silence all the same.
        self.assertEqual([next_fit(PLAIN, silence, 0), count_fits(PLAIN, silence, BIG), nth_fit(PLAIN, silence, 0)],
                         [None, 0, None])
        self.assertEqual(clashing_looks(PLAIN, [(3, 0, 9)] + silence), [1])
        sampled = ([("dial", 0), ("pass", 3, 6)], 4)
        self.assertEqual([nth_fit(sampled, [(10, None, None), (10, None, None)], index) for index in (3, 4, 8, 9)],
                         [3, 8, 12, 17])
        self.assertEqual(clashing_looks(sampled, [(10, 0, 2), (10, None, None)]), [0, 1])

    def test_looks_that_no_signal_fits(self):
        for looks in ([(10, 3, 3)], [(10, 0, 0), (11, 0, 0)], [(10, 1, 1), (10, None, None), (0, 0, 9)]):
            for signal in (0, 5, BIG):
                self.assertIsNone(next_fit(PASSED, looks, signal))
                self.assertEqual(count_fits(PASSED, looks, signal), 0)
                self.assertIsNone(nth_fit(PASSED, looks, signal))
            self.assertTrue(clashing_looks(PASSED, looks))

    def test_the_last_index_and_the_one_behind_it(self):
        self.assertEqual([nth_fit(PASSED, [(10, 0, 9)], index) for index in (0, 3, 4, 7, 8, BIG)],
                         [4, 7, 13, 16, None, None])
        wide = ([("dial", 0), ("pass", 5, 10 ** 38)], 10 ** 20)
        last = 2 * (10 ** 38 - 4) - 1
        self.assertEqual([nth_fit(wide, [(10 ** 39, 0, 10 ** 20)], index) for index in (last, last + 1)],
                         [10 ** 39 + 10 ** 38, None])

    def test_without_a_dial_stage_the_dial_plays_no_part(self):
        looks = [(5, 0, 1), (-5, 1, 2), (BIG, 1, 1)]
        self.assertEqual([nth_fit(UNDIALED, looks, index) for index in range(6)], [0, 2, 4, 6, 8, 10])
        self.assertEqual(count_fits(UNDIALED, looks, BIG), 8)
        self.assertEqual(clashing_looks(UNDIALED, [(5, 0, 1), (-5, 2, 2)]), [0, 1])

    def test_rate_2(self):
        receiver = ([("dial", 0)], 2)
        looks = [(0, 1, 1), (3, 0, 0)]
        self.assertEqual([nth_fit(receiver, looks, index) for index in (0, 1, BIG)], [1, 3, 2 * BIG + 1])
        self.assertEqual(clashing_looks(receiver, [(7, 0, 1), (0, 1, 1), (3, 1, 1)]), [1, 2])

    def test_tones_above_half_the_rate(self):
        for rate in (2, 3, 8, 9):
            receiver = ([("dial", 0)], rate)
            looks = [(0, 0, 99), (5, rate // 2 + 1, BIG)]
            self.assertEqual([next_fit(receiver, looks, 7), count_fits(receiver, looks, BIG)], [None, 0])
            self.assertEqual(clashing_looks(receiver, looks), [1])
            self.assertIsNone(clashing_looks(receiver, looks[:1]))

    def test_equal_looks(self):
        self.assertEqual([nth_fit(PASSED, [(10, 0, 0)] * 6, index) for index in range(3)], [6, 14, None])
        told = clashing_looks(PASSED, [(10, 7, 9)] * 6)
        self.assertEqual(len(told), 1)

    def test_three_looks_that_clash_only_together(self):
        # The signals that fit are 7 and 13, then 7 to 12, then 8 to 13 and 15 to 20.
        receiver, looks = ([("dial", 0)], None), [(10, 3, 3), (0, 7, 12), (14, 1, 6)]
        for two in itertools.combinations(looks, 2):
            self.assertIsNone(clashing_looks(receiver, list(two)))
        self.assertEqual(clashing_looks(receiver, looks), [0, 1, 2])
        self.assertEqual(clashing_looks(receiver, [looks[0], (4, 0, 99), looks[2], looks[1]]), [0, 2, 3])

    def test_all_six_looks_clash_together(self):
        # Each look rules out one remainder by 6.
        receiver = ([("dial", 0)], 6)
        looks = [(dial, 1, 3) for dial in range(6)]
        self.assertEqual(clashing_looks(receiver, looks), [0, 1, 2, 3, 4, 5])
        for index in range(6):
            self.assertIsNone(clashing_looks(receiver, looks[:index] + looks[index + 1:]))


class Great(unittest.TestCase):
    """Numbers of 30 to 40 digits."""

    def looked(self, seed, many):
        """Receivers, looks and a signal that most of these looks are made for."""
        source = random.Random(seed)
        for receiver, dial in great_receivers(seed + 1, many):
            dialed = with_dial(source, receiver)
            signal = source.randrange(10 ** source.choice([3, 30, 39]))
            looks = []
            for _ in range(source.randint(1, 6)):
                place = dial + source.randint(-10 ** 38, 10 ** 38)
                tone = plain_tone(dialed, place, signal)
                width = source.randrange(10 ** source.choice([1, 20, 30, 38]))
                if tone is None or source.random() < 0.05:
                    looks.append((place, None, None))
                else:
                    looks.append((place, max(0, tone - width), tone + width))
            yield source, dialed, looks, signal

    def test_all_functions_tell_the_same_signals(self):
        many_found = 0
        for source, receiver, looks, signal in self.looked(185, 300):
            many = count_fits(receiver, looks, 10 ** 40)
            many_found += many > 1
            for index in {0, 1, many - 1, source.randrange(many + 1)}:
                if 0 <= index < many:
                    self.assert_place(receiver, looks, index)
            if fits_looks(receiver, looks, signal):
                self.assertGreater(many, 0)
                self.assertEqual(next_fit(receiver, looks, signal), signal)
                self.assertIsNone(clashing_looks(receiver, looks))
        self.assertGreater(many_found, 150)

    def assert_place(self, receiver, looks, index):
        signal = nth_fit(receiver, looks, index)
        self.assertTrue(fits_looks(receiver, looks, signal))
        self.assertEqual(count_fits(receiver, looks, signal), index + 1)
        behind = nth_fit(receiver, looks, index + 1)
        self.assertEqual(next_fit(receiver, looks, signal + 1), behind)
        last = BIG * 10 ** 5 if behind is None else behind
        for between in (signal + 1, (signal + last) // 2, last - 1):
            if signal < between < last:
                self.assertFalse(fits_looks(receiver, looks, between))

    def test_counts_add_up(self):
        for source, receiver, looks, _ in self.looked(187, 150):
            far, cut = source.randrange(10 ** 40), source.randrange(10 ** source.choice([20, 38]))
            dial = looks[0][0] + source.randrange(10 ** 38)
            parts = [(dial, 0, cut), (dial, cut + 1, 10 ** 42), (dial, None, None)]
            told = [count_fits(receiver, looks[:5] + [part], far) for part in parts]
            self.assertEqual(sum(told), count_fits(receiver, looks[:5], far))

    def test_clashing_looks(self):
        many_found = 0
        for source, receiver, looks, signal in self.looked(189, 300):
            index = source.randrange(len(looks))
            dial, least, greatest = looks[index]
            if least is not None:
                looks[index] = (dial, greatest + 1, greatest + 2 + source.randrange(greatest + 1))
            told = clashing_looks(receiver, looks)
            if told is None:
                self.assertIsNotNone(next_fit(receiver, looks, 0))
                continue
            many_found += 1
            self.assertEqual(told, sorted(set(told)))
            self.assertIsNone(next_fit(receiver, [looks[place] for place in told], 0))
            for place in told:
                others = [looks[other] for other in told if other != place]
                if others:
                    fit = next_fit(receiver, others, 0)
                    self.assertTrue(fits_looks(receiver, others, fit))
        self.assertGreater(many_found, 60)

    def test_windows_around_great_turns(self):
        source = random.Random(191)
        for receiver, _ in small_receivers(192, 150, (None, 2, 3, 4, 5, 8, 9)):
            moved = moved_far(source, with_dial(source, receiver))
            looks = [some_look(source, moved, BIG + 3) for _ in range(2)]
            found = [signal for signal in range(BIG - 50, BIG + 51) if fits_looks(moved, looks, signal)]
            ahead = count_fits(moved, looks, BIG - 51)
            self.assertEqual([nth_fit(moved, looks, ahead + index) for index in range(len(found))], found)
            self.assertEqual(count_fits(moved, looks, BIG + 50), ahead + len(found))
            if found:
                self.assertEqual(next_fit(moved, looks, BIG - 50), found[0])


class Calls(unittest.TestCase):
    def test_wrong_arguments(self):
        for receiver in (PASSED, PLAIN, UNDIALED):
            looks = [(10, 0, 0), (-4, None, None)]
            for call, kind in CALLS.items():
                assert_wrong_arguments(self, call, ["receiver", "looks", kind], [receiver, looks, 7])
            assert_wrong_arguments(self, clashing_looks, ["receiver", "looks"], [receiver, looks])

    def test_right_looks_raise_nothing(self):
        for looks in ([(0, 0, 0)], [(-BIG, None, None)] * 6, [(BIG, BIG, BIG), (-1, 0, BIG)]):
            for receiver in (PASSED, PLAIN, UNDIALED):
                self.assertIsNone(told_error(clashing_looks, (receiver, looks)))
                for call in CALLS:
                    self.assertIsNone(told_error(call, (receiver, looks, 0)))

    def test_calls_change_nothing(self):
        receiver, looks = ([("mix", 6), ("dial", -2), ("mix", 3)], 5), [(0, 1, 1), (1, 0, 0), (3, 0, 0)]
        before = copy.deepcopy((receiver, looks))
        first = [call(receiver, looks, 9) for call in CALLS] + [clashing_looks(receiver, looks)]
        for call in CALLS:
            for value, told in WRONG[CALLS[call]]:
                self.assertEqual(told_error(call, (receiver, looks, value)), told)
        self.assertEqual([call(receiver, looks, 9) for call in CALLS] + [clashing_looks(receiver, looks)], first)
        self.assertEqual((receiver, looks), before)

    def test_returned_lists_are_new_and_the_same_for_equal_calls(self):
        looks = [(0, 1, 1), (1, 0, 0), (3, 0, 0)]
        told = clashing_looks(PLAIN, looks)
        kept = list(told)
        told.append(99)
        self.assertEqual(clashing_looks(PLAIN, list(looks)), kept)
        self.assertIsNot(clashing_looks(PLAIN, looks), clashing_looks(PLAIN, looks))

    def test_by_position_and_by_name(self):
        self.assertEqual(next_fit(signal=7, looks=[(10, 0, 0)], receiver=PASSED), 14)
        self.assertEqual(count_fits(far=7, looks=[(10, 0, 0)], receiver=PASSED), 1)
        self.assertEqual(nth_fit(index=1, looks=[(10, 0, 0)], receiver=PASSED), 14)
        self.assertEqual(clashing_looks(looks=[(10, 0, 0), (12, 0, 0)], receiver=PASSED), [0, 1])


if __name__ == "__main__":
    unittest.main()
