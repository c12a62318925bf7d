"""Spans, pieces and strides, on which all that is counted and found stands."""

import itertools
import random
import unittest

from imagetones.pieces import (band_pieces, common_pieces, count_along, count_to, first_from, heard_pieces, last_to,
                               number_pieces, other_pieces, period_of, place_along, place_at)
from imagetones.spans import all_spans, common_spans, count_below, number_at, other_spans, spans_of, tone_spans
from imagetones.strides import count_strides, first_stride, floor_sum
from plain import is_in, nearest_multiple_distance

BANDS = [(least, greatest) for least in range(8) for greatest in range(least, 8)] + [(0, 40), (9, 40)]
BIG = 10 ** 35 + 7919


def in_spans(spans, period, number):
    return any(low <= number % period <= high for low, high in spans)


def in_pieces(pieces, number):
    return any(first <= number and (last is None or number <= last) and in_spans(spans, period, number)
               for first, last, spans, period in pieces)


def numbers_of(pieces, end):
    return [number for number in range(end) if in_pieces(pieces, number)]


def some_spans(source, period):
    cuts = sorted(source.sample(range(period + 1), min(period + 1, source.choice([0, 2, 2, 4]))))
    return [(low, high - 1) for low, high in zip(cuts[::2], cuts[1::2])]


def some_pieces(source, period, last_end):
    """Some ascending pieces with a period, that may have empty spans; the last one may have no end."""
    cuts = sorted(source.sample(range(last_end), 2 * source.randint(0, 3)))
    pieces = [(low, high, some_spans(source, period), period) for low, high in zip(cuts[::2], cuts[1::2])]
    if source.random() < 0.4:
        pieces.append((last_end, None, some_spans(source, period), period))
    return pieces


class Spans(unittest.TestCase):
    def assert_spans(self, spans, period, found):
        """That spans mean these numbers of those from 0 on, and are what spans are."""
        self.assertEqual([number for number in range(3 * period) if in_spans(spans, period, number)], found)
        ends = [end for span in spans for end in span]
        self.assertEqual(ends, sorted(ends))
        self.assertTrue(all(one[1] < other[0] for one, other in zip(spans, spans[1:])))
        self.assertTrue(all(0 <= low <= high < period for low, high in spans))

    def test_tones(self):
        for rate, band in itertools.product(range(2, 14), BANDS):
            found = [number for number in range(3 * rate) if is_in(band, nearest_multiple_distance(rate, number))]
            self.assert_spans(tone_spans(band, rate), rate, found)

    def test_stretches_anywhere(self):
        for period, low, size in itertools.product(range(1, 9), range(-20, 21), range(1, 9)):
            if size <= period:
                left = {number % period for number in range(low, low + size)}
                found = [number for number in range(3 * period) if number % period in left]
                self.assert_spans(spans_of([(low, low + size - 1)], period), period, found)

    def test_common_and_other_spans(self):
        source = random.Random(11)
        for period in list(range(1, 14)) * 30:
            one, other = some_spans(source, period), some_spans(source, period)
            numbers = range(3 * period)
            both = [number for number in numbers if in_spans(one, period, number) and in_spans(other, period, number)]
            self.assert_spans(common_spans(one, other), period, both)
            self.assert_spans(other_spans(one, period), period,
                              [number for number in numbers if not in_spans(one, period, number)])
            self.assert_spans(all_spans(period), period, list(numbers))

    def test_counts_and_numbers(self):
        for rate, band in itertools.product(range(2, 14), BANDS):
            spans = tone_spans(band, rate)
            found = [number for number in range(60) if in_spans(spans, rate, number)]
            for end in range(61):
                many = len([number for number in found if number < end])
                self.assertEqual(count_below(spans, rate, end), many, (rate, band))
            self.assertEqual([number_at(spans, rate, index) for index in range(len(found))], found, (rate, band))


class Pieces(unittest.TestCase):
    def test_numbers_along_one_stretch(self):
        stretches = [(4, 30, 2, 1), (4, 30, 28, -1), (7, 7, 5, 1), (7, 7, 5, -1), (3, 3, 0, 1)]
        for stretch, rate, band in itertools.product(stretches, (None, 2, 3, 4, 7, 8), BANDS):
            least, greatest, number, way = stretch
            tones = {signal: number + way * (signal - least) for signal in range(least, greatest + 1)}
            if rate is not None:
                tones = {signal: nearest_multiple_distance(rate, tone) for signal, tone in tones.items()}
            found = [signal for signal, tone in tones.items() if is_in(band, tone)]
            pieces = band_pieces([stretch], rate, band)
            self.assertEqual(numbers_of(pieces, 40), found)
            self.assertEqual(sum(count_along(piece) for piece in pieces), len(found))
            self.assertEqual([place_at(pieces, index) for index in range(len(found) + 1)], found + [None])

    def test_one_remainder_along_a_stretch(self):
        for stretch, rate, number in itertools.product([(4, 30, 2, 1), (4, 30, 28, -1)], (2, 3, 7), range(7)):
            if number < rate:
                found = [signal for signal in range(4, 31)
                         if (stretch[2] + stretch[3] * (signal - 4)) % rate == number]
                self.assertEqual(numbers_of(number_pieces([stretch], rate, [(number, number)]), 40), found)

    def test_along_a_stretch_without_an_end(self):
        endless = (4, None, 6, 1)
        self.assertEqual([sum(count_along(piece) for piece in band_pieces([endless], None, band))
                          for band in [(0, 5), (0, 6), (9, 20)]], [0, 1, 12])
        told = [band_pieces([endless], 6, band)[0] for band in [(0, 0), (4, 9)]]
        self.assertEqual([count_along(piece) for piece in told], [None, 0])
        self.assertEqual([place_along(told[0], index) for index in range(3)], [4, 10, 16])

    def test_all_signals_of_stretches(self):
        for rate in (None, 2, 7):
            pieces = heard_pieces([(2, 5, 3, -1), (9, 9, 4, 1), (12, None, 1, 1)], rate)
            self.assertEqual(numbers_of(pieces, 15), [2, 3, 4, 5, 9, 12, 13, 14])
            self.assertEqual({piece[3] for piece in pieces}, {period_of(rate)})

    def test_counting_and_finding(self):
        source = random.Random(12)
        for period in list(range(1, 9)) * 25:
            pieces = some_pieces(source, period, 30)
            found = numbers_of(pieces, 60)
            is_endless = bool(pieces) and pieces[-1][1] is None and bool(pieces[-1][2])
            told = [place_at(pieces, index) for index in range(len(found))]
            self.assertEqual(told, found)
            self.assertEqual(place_at(pieces, len(found)) is None, not is_endless)
            for number in range(60):
                upto = [place for place in found if place <= number]
                behind = [place for place in found if place >= number]
                self.assertEqual(count_to(pieces, number), len(upto))
                self.assertEqual(last_to(pieces, number), upto[-1] if upto else None)
                if behind or not is_endless:
                    self.assertEqual(first_from(pieces, number), behind[0] if behind else None)

    def test_other_and_common_pieces(self):
        source = random.Random(13)
        for period in list(range(1, 9)) * 40:
            one, two = some_pieces(source, period, 30), some_pieces(source, period, source.choice([20, 30]))
            others, both = other_pieces(one, period), common_pieces(one, two)
            for number in range(60):
                self.assertEqual(in_pieces(others, number), not in_pieces(one, number))
                self.assertEqual(in_pieces(both, number), in_pieces(one, number) and in_pieces(two, number))
            for pieces in (others, both):
                ends = [end for first, last, _, _ in pieces for end in (first, last)]
                self.assertEqual(ends, sorted(ends, key=lambda end: 10 ** 9 if end is None else end))
                self.assertEqual(len({piece[0] for piece in pieces}), len(pieces))
                self.assertTrue(all(piece[3] == period for piece in pieces))


class Strides(unittest.TestCase):
    def test_floor_sums(self):
        for many, factor, shift, period in itertools.product(range(7), range(0, 12, 2), range(-9, 10, 3), range(1, 7)):
            told = sum((factor * index + shift) // period for index in range(many))
            self.assertEqual(floor_sum(many, factor, shift, period), told)

    def test_great_floor_sums(self):
        source = random.Random(14)
        for _ in range(100):
            period = source.randrange(1, 10 ** 40)
            factor, shift, many = source.randrange(10 ** 40), source.randint(-10 ** 40, 10 ** 40), source.randrange(60)
            told = sum((factor * index + shift) // period for index in range(many))
            self.assertEqual(floor_sum(many, factor, shift, period), told)
            # The sum up to the end is the sum up to a cut, and that behind it.
            cut, end = sorted([source.randrange(10 ** 40), source.randrange(10 ** 40)])
            parts = [floor_sum(cut, factor, shift, period),
                     floor_sum(end - cut, factor, shift + cut * factor, period)]
            self.assertEqual(sum(parts), floor_sum(end, factor, shift, period))

    def test_counting_and_finding(self):
        source = random.Random(15)
        for period, step in itertools.product(range(1, 9), list(range(1, 12)) * 3):
            pieces = some_pieces(source, period, 30)
            found = [index for index in range(60) if in_pieces(pieces, index * step)]
            for many in range(0, 60, 7):
                upto = [index for index in found if index < many]
                self.assertEqual(count_strides(pieces, step, many), len(upto))
                self.assertEqual(first_stride(pieces, step, many), upto[0] if upto else None)
            self.assertEqual(first_stride(pieces, step, None), found[0] if found else None)

    def test_great_strides(self):
        source = random.Random(16)
        for _ in range(100):
            period = source.randrange(10 ** 20, 10 ** 39)
            step = source.randrange(1, 10 ** 39)
            low = source.randrange(period)
            high = min(period - 1, low + source.choice([0, period // 10 ** 6, period // 3]))
            start = source.randrange(10 ** 39)
            pieces = [(start, source.choice([None, 10 ** 40]), [(low, high)], period)]
            index = first_stride(pieces, step, None)
            if index is not None:
                self.assertTrue(in_pieces(pieces, index * step))
                self.assertEqual(count_strides(pieces, step, index), 0)
                self.assertEqual(count_strides(pieces, step, index + 1), 1)
                self.assertIsNone(first_stride(pieces, step, index))
            for many in (1, 10 ** 9, source.randrange(10 ** 30)):
                others = [(start, pieces[0][1], [(0, low - 1), (high + 1, period - 1)], period)]
                told = [count_strides(some, step, many)
                        for some in (pieces, others, [(start, pieces[0][1], [(0, period - 1)], period)])]
                self.assertEqual(told[0] + told[1], told[2])


if __name__ == "__main__":
    unittest.main()
