"""Stretches and folds, on which the slopes stand: what their own files say of them."""

import unittest

from imagetones.folds import first_fold_to, fold_ends, fold_way, last_fold_from
from imagetones.stretches import (cut_to_numbers, cut_to_signals, number_of, parted_stretches, signal_of,
                                  stretches_at)
from plain import beyond_turns, nearest_multiple_distance, plain_tone, small_receivers


def numbers_of(stretch, end):
    """The numbers of the signals of a stretch, up to an end."""
    least, greatest, number, way = stretch
    last = end if greatest is None else greatest
    return {signal: number + way * (signal - least) for signal in range(least, last + 1)}


class Stretches(unittest.TestCase):
    def test_each_heard_signal_is_in_a_stretch_and_turns_are_in_two(self):
        for (stages, _), dial in small_receivers(31, 500):
            end = beyond_turns((stages, None), dial) + 3
            found = {}
            for stretch in stretches_at(stages, dial):
                for signal, number in numbers_of(stretch, end).items():
                    found.setdefault(signal, []).append(number)
            tones = [plain_tone((stages, None), dial, signal) for signal in range(end + 1)]
            for signal, tone in enumerate(tones):
                around = tones[signal - 1:signal] + tones[signal + 1:signal + 2]
                turns = len(around) == 2 and None not in around and around[0] == around[1]
                many = 0 if tone is None else 2 if turns else 1
                self.assertEqual(found.get(signal, []), [tone] * many, (stages, dial, signal))

    def test_a_signal_heard_alone_is_one_stretch(self):
        for stages in ([("pass", 5, 5)], [("mix", 5), ("pass", 0, 0)], [("mix", 5), ("pass", 0, 0), ("mix", 3)]):
            self.assertEqual([stretch[:2] for stretch in stretches_at(stages, 0)], [(5, 5)])

    def test_parted_stretches_share_no_signal(self):
        for (stages, _), dial in small_receivers(32, 300):
            stretches, parted = stretches_at(stages, dial), parted_stretches(stages, dial)
            self.assertEqual([part[0] for part in parted], [stretch[0] for stretch in stretches])
            end = beyond_turns((stages, None), dial) + 3
            told = [pair for part in parted for pair in numbers_of(part, end).items()]
            tones = [plain_tone((stages, None), dial, signal) for signal in range(end + 1)]
            self.assertEqual(told, [(signal, tone) for signal, tone in enumerate(tones) if tone is not None])

    def test_cuts(self):
        up, down = (4, None, 10, 1), (4, 9, 8, -1)
        self.assertEqual([number_of(up, 4), number_of(up, 7), number_of(down, 4), number_of(down, 9)], [10, 13, 8, 3])
        self.assertEqual([cut_to_signals(up, 6, None), cut_to_signals(down, 6, None), cut_to_signals(down, 10, None)],
                         [(6, None, 12, 1), (6, 9, 6, -1), None])
        self.assertEqual([signal_of(up, 12), signal_of(up, 7), signal_of(down, 8), signal_of(down, 3)], [6, 1, 4, 9])
        self.assertEqual([cut_to_signals(up, 6, 8), cut_to_signals(up, 0, 4)], [(6, 8, 12, 1), (4, 4, 10, 1)])
        self.assertEqual([cut_to_signals(down, 6, 99), cut_to_signals(down, 10, 12)], [(6, 9, 6, -1), None])
        self.assertEqual([cut_to_numbers(down, 4, 6), cut_to_numbers(down, 9, 12)], [(6, 8, 6, -1), None])
        self.assertEqual([cut_to_numbers(up, 0, 10), cut_to_numbers(up, 0, 9)], [(4, 4, 10, 1), None])


class Folds(unittest.TestCase):
    def test_the_tones_go_one_way_along_a_fold(self):
        for rate in range(2, 14):
            for fold in range(9):
                low, high = fold_ends(rate, fold)
                self.assertLess(low, high)
                tones = [nearest_multiple_distance(rate, number) for number in range(low, high + 1)]
                steps = [other - one for one, other in zip(tones, tones[1:])]
                self.assertEqual(steps, [fold_way(fold)] * (high - low))

    def test_the_first_and_the_last_fold(self):
        for rate in range(2, 14):
            folds = range(60 // (rate // 2) + 3)
            for number in range(60):
                last = max(fold for fold in folds if fold_ends(rate, fold)[0] <= number)
                self.assertEqual(last_fold_from(rate, number), last)
                if number > 0:
                    first = min(fold for fold in folds if fold_ends(rate, fold)[1] >= number)
                    self.assertEqual(first_fold_to(rate, number), first)


if __name__ == "__main__":
    unittest.main()
