"""[12]: images, against going through all signals and slopes one by one."""

import copy
import itertools
import random
import unittest

from imagetones.errors import Impossible
from imagetones.heard import count_heard
from imagetones.images import image_count, image_rows, next_image
from plain import BIG, beyond_turns, great_receivers, moved_far, plain_slopes, plain_tone, small_receivers
from wrong import assert_wrong_arguments, told_error

PLAIN, SAMPLED = ([("mix", 5), ("mix", 2)], None), ([("mix", 5), ("mix", 2)], 4)
PASSED = ([("pass", 3, 6)], None)


def plain_pieces(receiver, dial, end):
    """Lists of the signals up to an end that belong together: those of each slope without the
    sampler, a shared one to the second slope, and each other signal that is heard alone."""
    unsampled = (receiver[0], None)
    owner = {}
    for index, (least, greatest, _, _) in enumerate(plain_slopes(unsampled, dial, 0, end)):
        for signal in range(least, greatest + 1):
            owner[signal] = index
    pieces = {}
    for signal in range(end + 1):
        if plain_tone(unsampled, dial, signal) is not None:
            pieces.setdefault(owner.get(signal, ("alone", signal)), []).append(signal)
    return list(pieces.values())


def plain_rows(receiver, dial, tone, end):
    """The rows of a tone; a piece that reaches an end beyond all turns has no end."""
    stages, rate = receiver
    rows = []
    for piece in plain_pieces(receiver, dial, end):
        groups = {}
        for signal in piece:
            if plain_tone(receiver, dial, signal) == tone:
                number = plain_tone((stages, None), dial, signal)
                groups.setdefault(None if rate is None else number % rate, []).append(signal)
        for found in groups.values():
            if rate is not None and piece[-1] == end:
                rows.append((found[0], rate, None))
            elif len(found) == 1:
                rows.append((found[0], 1, 1))
            else:
                rows.append((found[0], rate, len(found)))
    return sorted(rows, key=lambda row: row[0])


def signals_of(rows, end):
    """The signals of rows up to an end, ascending, those that stand twice twice."""
    found = []
    for first, step, many in rows:
        last = end if many is None else min(end, first + step * (many - 1))
        found.extend(range(first, last + 1, step))
    return sorted(found)


class Small(unittest.TestCase):
    """All tones and signals of small receivers, to well beyond all turns."""

    def assert_rows(self, receiver, dial, tones, end):
        largest = max([tone for tone in tones if tone is not None], default=0)
        for tone in range(largest + 1 if receiver[1] is None else largest + 3):
            where = (receiver, dial, tone)
            rows = image_rows(receiver, dial, tone)
            self.assertEqual(rows, plain_rows(receiver, dial, tone, end), where)
            found = [signal for signal, there in enumerate(tones) if there == tone]
            self.assertEqual(signals_of(rows, end), found, where)

    def assert_images(self, receiver, dial, tones, end):
        for signal in range(0, end + 1, 2):
            where = (receiver, dial, signal)
            if tones[signal] is None:
                self.assertRaises(Impossible, next_image, receiver, dial, signal)
                self.assertRaises(Impossible, image_count, receiver, dial, signal, 3)
                continue
            images = [place for place, tone in enumerate(tones) if tone == tones[signal]]
            for far in range(0, end + 1, 3):
                upto = [place for place in images if place <= far]
                self.assertEqual(image_count(receiver, dial, signal, far), len(upto), where)
            behind = [place for place in images if place > signal]
            told = next_image(receiver, dial, signal)
            if behind:
                self.assertEqual(told, behind[0], where)
            elif receiver[1] is None or tones[-1] is None:
                self.assertIsNone(told, where)
                self.assertEqual(image_count(receiver, dial, signal, BIG), len(images), where)
            else:
                self.assertTrue(told > end and plain_tone(receiver, dial, told) == tones[signal], where)

    def assert_all(self, receiver, dial):
        turns = beyond_turns(receiver, dial)
        # Without a sampler the last stretch goes up beyond the tones of all the others.
        end = turns + 3 * receiver[1] + 3 if receiver[1] else 3 * turns + 3
        tones = [plain_tone(receiver, dial, signal) for signal in range(end + 1)]
        self.assert_rows(receiver, dial, tones, end)
        self.assert_images(receiver, dial, tones, end)

    def test_all_receivers_with_one_stage(self):
        stages = [("mix", 0), ("mix", 1), ("mix", 7), ("dial", 0), ("dial", 3), ("pass", 0, 0), ("pass", 0, 1),
                  ("pass", 2, 9), ("pass", 5, 5)]
        for stage, rate, dial in itertools.product(stages, (None, 2, 3, 4, 5, 6), (-4, 5)):
            self.assert_all(([stage], rate), dial)

    def test_many_receivers(self):
        for receiver, dial in small_receivers(51, 250):
            self.assert_all(receiver, dial)


class Named(unittest.TestCase):
    """Cases that the document and its edges name."""

    def test_a_signal_that_two_slopes_share_belongs_to_the_second(self):
        for rate in (2, 5, 10):
            self.assertEqual(image_rows(([("mix", 20)], rate), 0, 0), [(0, rate, 20 // rate), (20, rate, None)])
        self.assertEqual(image_rows(([("mix", 20), ("mix", 12)], 4), 0, 0),
                         [(0, 4, 2), (8, 4, 3), (20, 4, 3), (32, 4, None)])
        self.assertEqual(image_rows(([("mix", 3)], 4), 0, 0), [(3, 4, None)])

    def test_the_tones_0_and_half_the_rate_are_one_row(self):
        straight = ([("mix", 0)], 6)
        self.assertEqual([image_rows(straight, 0, tone) for tone in range(5)],
                         [[(0, 6, None)], [(1, 6, None), (5, 6, None)], [(2, 6, None), (4, 6, None)],
                          [(3, 6, None)], []])
        odd = ([("mix", 0)], 7)
        self.assertEqual(image_rows(odd, 0, 3), [(3, 7, None), (4, 7, None)])
        self.assertEqual([image_rows(([("mix", 0)], 2), 0, tone) for tone in range(3)],
                         [[(0, 2, None)], [(1, 2, None)], []])

    def test_tones_above_half_the_rate(self):
        for rate in (2, 3, 8, 9, 10 ** 30):
            for tone in (rate // 2 + 1, rate, rate + 1, BIG):
                self.assertEqual(image_rows(([("mix", 5)], rate), 0, tone), [])

    def test_rows_with_one_signal(self):
        self.assertEqual(image_rows(([("mix", 0), ("pass", 0, 9)], 8), 0, 1), [(1, 8, 2), (7, 1, 1)])
        self.assertEqual(image_rows(([("mix", 0), ("pass", 0, 4)], 8), 0, 1), [(1, 1, 1)])
        self.assertEqual(image_rows(([("pass", 5, 5)], 3), 0, 1), [(5, 1, 1)])
        self.assertEqual(image_rows(([("mix", 9), ("pass", 0, 0)], 3), 0, 0), [(9, 1, 1)])
        self.assertEqual(image_rows(([("mix", 9), ("pass", 2, 2)], 3), 0, 1), [(7, 1, 1), (11, 1, 1)])

    def test_each_signal_is_a_row_without_a_sampler(self):
        self.assertEqual(image_rows(([("mix", 9)], None), 0, 4), [(5, 1, 1), (13, 1, 1)])
        self.assertEqual(image_rows(([("mix", 9)], None), 0, 0), [(9, 1, 1)])
        self.assertEqual(image_rows(([("mix", 9)], None), 0, BIG), [(BIG + 9, 1, 1)])
        self.assertEqual(image_rows(PASSED, 0, 2), [])

    def test_no_image_behind(self):
        self.assertEqual([next_image(PLAIN, 0, signal) for signal in (7, 8, 9, BIG)], [None] * 4)
        self.assertEqual([image_count(PLAIN, 0, 16, far) for far in (15, 16, BIG)], [0, 1, 1])
        self.assertEqual([next_image(([("pass", 3, 6)], 3), 0, signal) for signal in (3, 4, 5, 6)], [6, 5, None, None])

    def test_signals_that_are_not_heard(self):
        for signal in (0, 2, 7, BIG):
            self.assertRaises(Impossible, next_image, PASSED, 0, signal)
            self.assertRaises(Impossible, image_count, PASSED, 0, signal, 5)
        self.assertEqual(image_count(PASSED, 0, 3, 0), 0)


class Great(unittest.TestCase):
    """Numbers of 30 to 40 digits."""

    def assert_rows(self, receiver, dial, tone, far):
        rows = image_rows(receiver, dial, tone)
        where = (receiver, dial, tone)
        firsts = [row[0] for row in rows]
        self.assertEqual(firsts, sorted(set(firsts)), where)
        told = 0
        for first, step, many in rows:
            steps = 9 if many is None else many - 1
            for index in {0, steps // 2, steps}:
                self.assertEqual(plain_tone(receiver, dial, first + step * index), tone, where)
            self.assertEqual(step, 1 if many == 1 else receiver[1], where)
            if first <= far:
                upto = (far - first) // step + 1
                told += upto if many is None else min(many, upto)
        self.assertEqual(told, count_heard(receiver, dial, (tone, tone), far), where)

    def test_rows_hold_what_is_counted(self):
        source = random.Random(52)
        for receiver, dial in great_receivers(53, 250):
            for place in (0, 10 ** 20, 10 ** 39):
                signal = source.randrange(place + 10)
                tone = plain_tone(receiver, dial, signal)
                if tone is not None:
                    self.assert_rows(receiver, dial, tone, source.randrange(10 ** 40))
            self.assert_rows(receiver, dial, source.randrange(10 ** 30), 10 ** 40)

    def test_images_in_turn(self):
        source = random.Random(54)
        for receiver, dial in great_receivers(55, 250):
            signal = source.randrange(10 ** source.choice([1, 25, 39]))
            tone = plain_tone(receiver, dial, signal)
            if tone is None:
                self.assertRaises(Impossible, next_image, receiver, dial, signal)
                continue
            ahead = image_count(receiver, dial, signal, signal)
            for index in range(1, 5):
                behind = next_image(receiver, dial, signal)
                if behind is None:
                    self.assertEqual(image_count(receiver, dial, signal, 10 ** 40), ahead + index - 1)
                    break
                self.assertEqual(plain_tone(receiver, dial, behind), tone)
                self.assertEqual(image_count(receiver, dial, signal, behind), ahead + index)
                self.assertEqual(image_count(receiver, dial, signal, behind - 1), ahead + index - 1)
                signal = behind

    def test_windows_around_great_turns(self):
        source = random.Random(56)
        for receiver, dial in small_receivers(57, 120, (None, 2, 3, 4, 5, 8, 9)):
            moved = moved_far(source, receiver)
            tones = {signal: plain_tone(moved, dial, signal) for signal in range(BIG - 50, BIG + 51)}
            for signal in range(BIG - 50, BIG + 20):
                behind = [place for place in tones if place > signal and tones[place] == tones[signal]]
                if tones[signal] is not None and behind:
                    self.assertEqual(next_image(moved, dial, signal), behind[0])
                    between = image_count(moved, dial, signal, BIG + 50) - image_count(moved, dial, signal, signal)
                    self.assertEqual(between, len(behind))

    def test_great_rows(self):
        rate = 10 ** 30 + 1
        self.assertEqual(image_rows(([("mix", 3 * rate)], rate), 0, 1),
                         [(1, rate, 3), (rate - 1, rate, 3), (3 * rate + 1, rate, None), (4 * rate - 1, rate, None)])
        self.assertEqual(image_rows(([("mix", 3 * 10 ** 39), ("pass", 0, 10 ** 39)], 2), 0, 1),
                         [(2 * 10 ** 39 + 1, 2, 10 ** 39 // 2), (3 * 10 ** 39 + 1, 2, 10 ** 39 // 2)])


class Calls(unittest.TestCase):
    def test_wrong_arguments(self):
        silent = ([("pass", 50, 60)], 4)
        for receiver in (PLAIN, SAMPLED, ([("dial", 0)], 4), silent):
            assert_wrong_arguments(self, image_rows, ["receiver", "dial", "tone"], [receiver, 3, 2])
            assert_wrong_arguments(self, image_count, ["receiver", "dial", "signal", "number"], [receiver, 3, 2, 9])
            assert_wrong_arguments(self, next_image, ["receiver", "dial", "signal"], [receiver, 3, 2])
        self.assertEqual(told_error(image_count, (silent, 3, 2, 9)), ("Impossible", None))
        self.assertEqual(told_error(next_image, (silent, 3, 2)), ("Impossible", None))
        self.assertIsNone(told_error(image_rows, (silent, 3, 2)))

    def test_calls_change_nothing(self):
        receiver = ([("dial", 0), ("pass", 3, 6), ("mix", 4)], 4)
        before = copy.deepcopy(receiver)
        for last in (4, 8, None):
            for call, arguments in [(image_rows, (last,)), (image_count, (last, 9)), (next_image, (last,))]:
                told_error(call, (receiver, 10, *arguments))
        self.assertEqual(receiver, before)

    def test_lists_are_new(self):
        for receiver in (PLAIN, SAMPLED):
            told = image_rows(receiver, 0, 1)
            kept = list(told)
            told.clear()
            self.assertEqual(image_rows(receiver, 0, 1), kept)
            self.assertTrue(kept and all(type(row) is tuple for row in kept))

    def test_by_position_and_by_name(self):
        self.assertEqual(image_rows(tone=0, dial=0, receiver=SAMPLED), [(3, 1, 1), (7, 4, None)])
        self.assertEqual(image_count(far=5, signal=1, dial=0, receiver=PLAIN), 2)
        self.assertEqual(next_image(signal=1, dial=0, receiver=PLAIN), 5)


if __name__ == "__main__":
    unittest.main()
