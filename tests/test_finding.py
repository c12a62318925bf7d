"""Wanted numbers and finding signals, on which heard signals, images and dials stand."""

import itertools
import unittest

from imagetones.finding import count_along, count_to, first_from, last_to, signal_along, signal_at
from imagetones.wanted import count_below, wanted_number, wanted_numbers
from plain import is_in, nearest_multiple_distance

BANDS = [(least, greatest) for least in range(8) for greatest in range(least, 8)] + [(0, 40), (9, 40)]


def plain_wanted(band, rate, end):
    """The numbers below an end that make a tone in the band."""
    return [number for number in range(end)
            if is_in(band, number if rate is None else nearest_multiple_distance(rate, number))]


class Wanted(unittest.TestCase):
    def test_counts_and_numbers(self):
        for rate, band in itertools.product([None] + list(range(2, 14)), BANDS):
            wanted = wanted_numbers(band, rate)
            found = plain_wanted(band, rate, 60)
            for end in range(61):
                many = len([number for number in found if number < end])
                self.assertEqual(count_below(wanted, end), many, (rate, band))
            told = [wanted_number(wanted, index) for index in range(len(found))]
            self.assertEqual(told, found, (rate, band))

    def test_all_of_them(self):
        self.assertEqual([count_below(wanted_numbers((3, 5), rate), None) for rate in (None, 4, 5)], [3, 0, 0])
        self.assertEqual([count_below(wanted_numbers((3, 5), rate), None) for rate in (6, 7, 99)], [None] * 3)
        self.assertEqual([wanted_number(wanted_numbers((3, 5), None), index) for index in (2, 3)], [5, None])
        self.assertEqual([wanted_number(wanted_numbers((3, 5), 4), index) for index in (0, 3)], [None, None])

    def test_spans_share_no_number(self):
        for rate, band in itertools.product(range(2, 14), BANDS):
            spans, kept = wanted_numbers(band, rate)
            self.assertEqual(kept, rate)
            ends = [end for span in spans for end in span]
            self.assertEqual(ends, sorted(ends))
            self.assertTrue(all(one[1] < other[0] for one, other in zip(spans, spans[1:])))
            self.assertTrue(all(0 <= low <= high < rate for low, high in spans))


class Finding(unittest.TestCase):
    def test_along_one_stretch(self):
        stretches = [(4, 30, 2, 1), (4, 30, 28, -1), (7, 7, 5, 1), (7, 7, 5, -1), (3, 3, 0, 1)]
        for stretch, rate, band in itertools.product(stretches, (None, 2, 3, 4, 7, 8), BANDS):
            least, greatest, number, way = stretch
            made = {number + way * (signal - least): signal for signal in range(least, greatest + 1)}
            found = sorted([made[there] for there in plain_wanted(band, rate, 40) if there in made])
            wanted = wanted_numbers(band, rate)
            self.assertEqual(count_along(stretch, wanted), len(found))
            self.assertEqual([signal_along(stretch, wanted, index) for index in range(len(found))], found)

    def test_along_a_stretch_without_an_end(self):
        endless = (4, None, 6, 1)
        self.assertEqual([count_along(endless, wanted_numbers(band, None)) for band in [(0, 5), (0, 6), (9, 20)]],
                         [0, 1, 12])
        self.assertEqual([count_along(endless, wanted_numbers(band, 6)) for band in [(0, 0), (4, 9)]], [None, 0])
        self.assertEqual([signal_along(endless, wanted_numbers((0, 0), 6), index) for index in range(3)], [4, 10, 16])

    def test_along_several_stretches(self):
        stretches, wanted = [(2, 5, 3, -1), (9, 9, 4, 1), (12, None, 1, 1)], wanted_numbers((1, 1), 4)
        found = [2, 4, 12, 14, 16, 18, 20]
        self.assertEqual([signal_at(stretches, wanted, index) for index in range(7)], found)
        for signal in range(18):
            upto = [place for place in found if place <= signal]
            self.assertEqual(count_to(stretches, wanted, signal), len(upto))
            self.assertEqual(last_to(stretches, wanted, signal), upto[-1] if upto else None)
            self.assertEqual(first_from(stretches, wanted, signal), min(place for place in found if place >= signal))
        self.assertIsNone(signal_at(stretches[:2], wanted, 2))
        self.assertIsNone(first_from(stretches[:2], wanted, 5))
        self.assertEqual([count_to([], wanted, 9), signal_at([], wanted, 0), last_to([], wanted, 9)], [0, None, None])


if __name__ == "__main__":
    unittest.main()
