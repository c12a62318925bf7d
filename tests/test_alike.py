"""[13], [14]: two receivers, idle stages and trimmed receivers, against going through all signals."""

import copy
import itertools
import math
import random
import unittest

from imagetones.alike import first_unlike, idle_stages, next_unlike, trimmed_receiver
from plain import (BIG, WRONG_INTEGERS, beyond_turns, great_receivers, moved_far, plain_tone, small_receivers,
                   some_stages)
from wrong import assert_wrong_arguments

PLAIN, SAMPLED = ([("mix", 5), ("mix", 2)], None), ([("mix", 5), ("mix", 2)], 4)
RATES = (None, 2, 3, 4, 5, 6, 7, 8, 9, 12)


def plain_end(receiver, other, dial):
    """A signal up to which two receivers differ, also from its half on, if they ever do."""
    rates = [receiver[1] or 1, other[1] or 1]
    # Beyond all turns the tones come again with both rates. Where only one receiver has a
    # sampler, the tones of the other one go up beyond all of its tones.
    turns = beyond_turns(receiver, dial) + beyond_turns(other, dial)
    return 2 * (turns + math.lcm(*rates) + max(rates) + 1)


def plain_unlike(receiver, other, dial, low, high):
    """The signals from low to high whose tones differ."""
    return [signal for signal in range(low, high + 1)
            if plain_tone(receiver, dial, signal) != plain_tone(other, dial, signal)]


def plain_is_idle(receiver, dial, index):
    stages, rate = receiver
    if len(stages) == 1:
        return False
    other = (stages[:index] + stages[index + 1:], rate)
    end = plain_end(receiver, other, dial)
    return all(plain_tone(receiver, dial, signal) == plain_tone(other, dial, signal) for signal in range(end + 1))


def plain_trimmed(receiver, dial):
    left = receiver
    index = 0
    while index < len(left[0]):
        if plain_is_idle(left, dial, index):
            left = (left[0][:index] + left[0][index + 1:], left[1])
        else:
            index += 1
    return left


def changed(source, receiver, rates):
    """A receiver that is much like another one: often the two are alike for many signals or all."""
    stages, rate = list(receiver[0]), receiver[1]
    place = source.randrange(len(stages))
    kind, *numbers = stages[place]
    way = source.randrange(6)
    if way == 0:
        rate = source.choice(rates)
    elif way == 1:
        stages[place] = (kind, *numbers[:-1], numbers[-1] + source.choice([1, 2, rate or 3]))
    elif way == 2 and len(stages) > 1:
        stages.pop(place)
    elif way == 3 and len(stages) < 8:
        stages.insert(source.randint(0, len(stages)), ("pass", 0, source.choice([20, 40, 60])))
    elif way == 4 and len(stages) < 8:
        stages.insert(source.randint(0, len(stages)), ("mix", source.choice([0, rate or 0, 2 * (rate or 0)])))
    return (stages, rate)


class Small(unittest.TestCase):
    def assert_unlike(self, receiver, other, dial):
        where = (receiver, other, dial)
        end = plain_end(receiver, other, dial)
        apart = plain_unlike(receiver, other, dial, 0, end)
        self.assertEqual(first_unlike(receiver, other, dial), apart[0] if apart else None, where)
        for signal in range(0, end // 2 + 1, 1 if end < 60 else 3):
            behind = [place for place in apart if place >= signal]
            found = next_unlike(receiver, other, dial, signal)
            self.assertEqual(found, behind[0] if behind else None, (where, signal))
            self.assertEqual(found, next_unlike(other, receiver, dial, signal), where)

    def test_all_rates_against_each_other(self):
        for one, other in itertools.product(RATES + (13,), repeat=2):
            for stages in ([("mix", 0)], [("mix", 7)], [("mix", 30), ("mix", 11)]):
                self.assert_unlike((stages, one), (stages, other), 0)
                self.assert_unlike((stages, one), (stages + [("mix", 3)], other), 0)
                self.assert_unlike((stages, one), ([("mix", 10)], other), 0)

    def test_many_pairs_that_are_much_alike(self):
        source = random.Random(61)
        alike = 0
        for receiver, dial in small_receivers(62, 500, RATES):
            other = changed(source, receiver, RATES)
            if source.random() < 0.3:
                other = changed(source, other, RATES)
            self.assert_unlike(receiver, other, dial)
            alike += first_unlike(receiver, other, dial) is None
        self.assertGreater(alike, 60)

    def test_many_pairs(self):
        source = random.Random(63)
        for receiver, dial in small_receivers(64, 200, RATES):
            other = (some_stages(source, source.randint(1, 4)), source.choice(RATES))
            self.assert_unlike(receiver, other, dial)

    def test_idle_stages_and_trimmed_receivers(self):
        source = random.Random(65)
        idle = 0
        for receiver, dial in small_receivers(66, 250, (None, 2, 3, 4, 6, 7)):
            stages = list(receiver[0])
            while len(stages) < 8 and source.random() < 0.5:
                extra = source.choice([("mix", 0), ("mix", 6), ("pass", 0, 40), stages[-1], stages[0]])
                if extra[0] != "dial":
                    stages.insert(source.randint(0, len(stages)), extra)
            longer = (stages, receiver[1])
            expected = [index for index in range(len(stages)) if plain_is_idle(longer, dial, index)]
            self.assertEqual(idle_stages(longer, dial), expected, (longer, dial))
            self.assertEqual(trimmed_receiver(longer, dial), plain_trimmed(longer, dial), (longer, dial))
            idle += len(expected) > 1
        self.assertGreater(idle, 30)


class Named(unittest.TestCase):
    """Cases that the document and its edges name."""

    def test_silence_differs_from_each_tone_and_not_from_silence(self):
        one, other = ([("pass", 3, 6)], None), ([("pass", 3, 9)], None)
        self.assertEqual([next_unlike(one, other, 0, signal) for signal in (0, 6, 7, 9, 10, BIG)],
                         [7, 7, 7, 9, None, None])
        zero = ([("pass", 0, 0)], None)
        self.assertEqual(first_unlike(zero, ([("pass", 1, 1)], None), 0), 0)
        self.assertIsNone(first_unlike(([("pass", 3, 5), ("pass", 6, 7)], 4), ([("mix", 9), ("pass", 0, 0),
                                       ("pass", 1, 2)], None), 0))

    def test_a_receiver_is_like_itself(self):
        for receiver, dial in small_receivers(67, 100):
            self.assertIsNone(first_unlike(receiver, receiver, dial))
            self.assertIsNone(next_unlike(receiver, (list(receiver[0]), receiver[1]), dial, BIG))

    def test_rates_part_behind_the_first_peak(self):
        straight = [("mix", 0)]
        for half in (1, 2, 10 ** 20, 10 ** 29 + 3):
            even, odd = (straight, 2 * half), (straight, 2 * half + 1)
            self.assertEqual(first_unlike(even, odd, 0), half + 1)
            self.assertEqual(first_unlike(even, (straight, None), 0), half + 1)
            self.assertEqual(first_unlike((straight, None), odd, 0), half + 1)
            self.assertEqual(first_unlike(odd, (straight, 2 * half + 2), 0), half + 1)

    def test_rates_that_never_show(self):
        few = [("mix", 9), ("pass", 0, 6)]
        self.assertIsNone(first_unlike((few, None), (few, 12), 0))
        self.assertIsNone(first_unlike((few, 12), (few, 10 ** 39), 0))
        self.assertEqual(first_unlike((few, None), (few, 11), 0), 3)
        self.assertEqual(next_unlike((few, None), (few, 11), 0, 4), 15)

    def test_a_signal_heard_alone(self):
        alone = [("pass", 5, 5)]
        self.assertIsNone(first_unlike((alone, 4), (alone, 6), 0))
        self.assertEqual(first_unlike((alone, 4), (alone, 7), 0), 5)
        self.assertIsNone(first_unlike((alone, 4), (alone + [("mix", 6)], None), 0))

    def test_the_dial_takes_part_on_both_sides(self):
        tuned = ([("dial", 0)], None)
        self.assertEqual([first_unlike(tuned, ([("mix", 5)], None), dial) for dial in (4, 5, 6, -5)], [0, None, 0, 1])
        self.assertIsNone(first_unlike(tuned, ([("dial", 0), ("mix", 0)], None), -BIG))

    def test_one_stage_is_never_idle(self):
        for stage in [("mix", 0), ("dial", 0), ("pass", 0, BIG), ("pass", 5, 5)]:
            for rate in (None, 2, 5):
                receiver = ([stage], rate)
                self.assertEqual(idle_stages(receiver, 0), [])
                self.assertEqual(trimmed_receiver(receiver, 0), receiver)
        self.assertEqual(trimmed_receiver(([("mix", 0)] * 8, 5), 0), ([("mix", 0)], 5))
        self.assertEqual(idle_stages(([("mix", 0)] * 8, 5), 0), list(range(8)))

    def test_stages_that_are_idle_only_alone(self):
        twice = ([("mix", 3), ("pass", 0, 9), ("mix", 1), ("pass", 0, 8), ("mix", 0)], None)
        self.assertEqual(idle_stages(twice, 0), [1, 3, 4])
        self.assertEqual(trimmed_receiver(twice, 0), ([("mix", 3), ("mix", 1), ("pass", 0, 8)], None))
        silent = ([("pass", 5, 9), ("pass", 1, 3), ("mix", 7)], 6)
        self.assertEqual(idle_stages(silent, 0), [2])
        self.assertEqual(trimmed_receiver(silent, 0), ([("pass", 5, 9), ("pass", 1, 3)], 6))
        self.assertEqual(trimmed_receiver(([("pass", 1, 3), ("pass", 5, 9), ("pass", 1, 3)], 6), 0),
                         ([("pass", 5, 9), ("pass", 1, 3)], 6))

    def test_idle_by_the_rate(self):
        for rate in (2, 6, 10 ** 30):
            self.assertEqual(idle_stages(([("mix", rate), ("mix", rate // 2)], rate), 0), [0])
            self.assertEqual(idle_stages(([("mix", 3 * rate), ("dial", -rate)], rate), 0), [0, 1])
        self.assertEqual(idle_stages(([("mix", 7), ("mix", 14)], 7), 0), [0, 1])
        self.assertEqual(idle_stages(([("mix", 7), ("mix", 14)], 8), 0), [])


class Great(unittest.TestCase):
    """Numbers of 30 to 40 digits."""

    def assert_least(self, receiver, other, dial, signal, source):
        where = (receiver, other, dial, signal)
        found = next_unlike(receiver, other, dial, signal)
        last = 10 ** 40 if found is None else found - 1
        if found is not None:
            self.assertGreaterEqual(found, signal, where)
            self.assertNotEqual(plain_tone(receiver, dial, found), plain_tone(other, dial, found), where)
        for _ in range(12 if signal <= last else 0):
            near = source.choice([signal, last]) + source.randint(-3, 3)
            for place in (source.randint(signal, last), min(last, max(signal, near))):
                self.assertEqual(plain_tone(receiver, dial, place), plain_tone(other, dial, place), where)
        return found

    def test_great_receivers_much_alike(self):
        source = random.Random(68)
        rates = (None, 10 ** 29, 10 ** 29 + 1, 10 ** 33 + 7, 10 ** 33 + 8)
        alike = 0
        for receiver, dial in great_receivers(69, 300, rates):
            other = changed(source, receiver, rates)
            found = self.assert_least(receiver, other, dial, 0, source)
            alike += found is None
            if found is not None:
                self.assert_least(receiver, other, dial, found + 1, source)
            self.assert_least(receiver, other, dial, source.randrange(10 ** 39), source)
        self.assertGreater(alike, 30)

    def test_windows_around_great_turns(self):
        source = random.Random(70)
        for receiver, dial in small_receivers(71, 200, RATES):
            one = moved_far(source, receiver)
            other = changed(source, one, RATES)
            low, high = BIG - 60, BIG + 60
            apart = plain_unlike(one, other, dial, low, high)
            for signal in range(low, high + 1, 4):
                behind = [place for place in apart if place >= signal]
                found = next_unlike(one, other, dial, signal)
                if behind:
                    self.assertEqual(found, behind[0], (one, other, dial, signal))
                else:
                    self.assertTrue(found is None or found > high, (one, other, dial, signal))

    def test_far_passes(self):
        for width in (10 ** 29, 10 ** 39):
            one, other = ([("mix", 3)], 5), ([("mix", 3), ("pass", 0, width)], 5)
            self.assertEqual(first_unlike(one, other, 0), width + 4)
            self.assertEqual(next_unlike(one, other, 0, width + 99), width + 99)

    def test_eight_mixers_with_all_slopes(self):
        stages = [("mix", 10 ** 30 << (8 - place)) for place in range(8)]
        receiver = (stages, 10 ** 20)
        self.assertEqual(idle_stages(receiver, 0), list(range(8)))
        self.assertEqual(trimmed_receiver(receiver, 0), (stages[-1:], 10 ** 20))
        self.assertEqual(idle_stages((stages, 10 ** 20 + 1), 0), [])
        self.assertEqual(trimmed_receiver((stages, None), 0), (stages, None))
        wide = ([("mix", 0)] + stages[:6] + [("pass", 0, 10 ** 39)], None)
        self.assertEqual(idle_stages(wide, 0), [0])


class Calls(unittest.TestCase):
    def test_wrong_arguments(self):
        for receiver in (PLAIN, SAMPLED, ([("dial", 0)], 4)):
            pair = [receiver, SAMPLED]
            assert_wrong_arguments(self, first_unlike, ["receiver", "receiver", "dial"], pair + [3])
            assert_wrong_arguments(self, next_unlike, ["receiver", "receiver", "dial", "signal"], pair + [3, 4])
            for call in (idle_stages, trimmed_receiver):
                assert_wrong_arguments(self, call, ["receiver", "dial"], [receiver, 3])

    def test_calls_change_nothing(self):
        receiver, other = ([("mix", 0), ("dial", 0), ("mix", 0)], 4), ([("dial", 0), ("mix", 4)], 4)
        before = copy.deepcopy((receiver, other))
        for dial in [3, -BIG] + WRONG_INTEGERS:
            for call, arguments in [(first_unlike, (receiver, other, dial)), (idle_stages, (receiver, dial)),
                                    (next_unlike, (receiver, other, dial, 7)), (trimmed_receiver, (receiver, dial))]:
                try:
                    call(*arguments)
                except ValueError:
                    self.assertNotIn(dial, (3, -BIG))
        self.assertEqual((receiver, other), before)

    def test_lists_are_new(self):
        receiver = ([("mix", 0), ("mix", 0), ("dial", 0)], 4)
        told = idle_stages(receiver, 0)
        told.clear()
        self.assertEqual(idle_stages(receiver, 0), [0, 1, 2])
        for stages in ([("mix", 5), ("mix", 2)], [("mix", 5)], [("mix", 0), ("mix", 5)]):
            trimmed = trimmed_receiver((stages, 7), 0)
            kept = copy.deepcopy(trimmed)
            before = list(stages)
            trimmed[0].append(("mix", 9))
            self.assertEqual((trimmed_receiver((stages, 7), 0), stages), (kept, before))
            self.assertIs(type(trimmed), tuple)

    def test_by_position_and_by_name(self):
        self.assertEqual(first_unlike(dial=0, other=SAMPLED, receiver=PLAIN), 0)
        self.assertEqual(next_unlike(signal=1, dial=0, other=SAMPLED, receiver=PLAIN), 10)
        self.assertEqual(idle_stages(dial=0, receiver=([("mix", 0), ("mix", 5)], None)), [0])
        self.assertEqual(trimmed_receiver(dial=0, receiver=([("mix", 0), ("mix", 5)], None)), ([("mix", 5)], None))


if __name__ == "__main__":
    unittest.main()
