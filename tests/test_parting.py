"""[20]: dials at which two signals part, against going through the dials one by one."""

import copy
import itertools
import random
import unittest

from imagetones.clashes import count_clashes, next_clash
from imagetones.parting import parting_dial, parting_way
from plain import BIG, beyond_dials, great_receivers, plain_tone, small_receivers, with_dial
from wrong import WRONG, assert_wrong_arguments, told_error

PASSED, PLAIN = ([("dial", 0), ("pass", 3, 6), ("mix", 4)], None), ([("dial", 0)], 4)
DEEP = ([("mix", 6), ("dial", -2), ("mix", 3), ("pass", 0, 8)], 5)
UNDIALED = ([("mix", 5), ("pass", 0, 9)], 4)


def plain_parts(receiver, one, other, dial):
    return plain_tone(receiver, dial, one) != plain_tone(receiver, dial, other)


class Small(unittest.TestCase):
    def assert_all(self, receiver, one, other):
        where = (receiver, one, other)
        # Beyond all turns the rate brings the tones again, so all that parts at all parts up to the end as well.
        inner = max(beyond_dials(receiver, one), beyond_dials(receiver, other))
        end = 2 * inner + 2 * (receiver[1] or 0) + 2
        found = [dial for dial in range(-end, end + 1) if plain_parts(receiver, one, other, dial)]
        for dial in range(-inner, inner + 1):
            behind = [place for place in found if place >= dial]
            self.assertEqual(parting_dial(receiver, one, other, dial), behind[0] if behind else None, (where, dial))
            way = min([abs(place - dial) for place in found], default=None)
            self.assertEqual(parting_way(receiver, one, other, dial), way, (where, dial))
        return bool(found)

    def test_a_dial_stage_alone(self):
        for add, rate, one, other in itertools.product((0, 3, -2), (None, 2, 3, 4, 5, 6), (0, 1, 7), (0, 2, 5, 7, 11)):
            parts = self.assert_all(([("dial", add)], rate), one, other)
            self.assertEqual(parts, (one - other) % rate != 0 if rate else one != other)

    def test_many_receivers(self):
        source = random.Random(201)
        found = []
        for receiver, _ in small_receivers(202, 400):
            one = source.randint(0, 12)
            other = source.choice([one, one + 1, one + 2, one + (receiver[1] or 3), source.randint(0, 12)])
            found.append(self.assert_all(with_dial(source, receiver), one, other))
        self.assertGreater(found.count(True), 150)
        self.assertGreater(found.count(False), 100)


class Named(unittest.TestCase):
    """Cases that the document and its edges name."""

    def test_signals_that_part_nowhere(self):
        for one, other in [(3, 3), (1, 5), (0, 4 * BIG)]:
            for dial in (-BIG, 0, 7, BIG):
                self.assertIsNone(parting_dial(PLAIN, one, other, dial))
                self.assertIsNone(parting_way(PLAIN, one, other, dial))
        ahead = ([("pass", 3, 5), ("dial", 0), ("mix", 1)], None)
        self.assertIsNone(parting_dial(ahead, 2, 6, -BIG))
        self.assertIsNone(parting_way(ahead, 2, 6, 0))
        mirrored = ([("mix", 6), ("dial", 1)], None)
        self.assertIsNone(parting_way(mirrored, 4, 8, 0))

    def test_silence_differs_from_each_tone_and_not_from_silence(self):
        self.assertEqual([plain_tone(PASSED, dial, 10) for dial in (3, 4, 8, 12, 13)], [None, 2, None, None, 1])
        self.assertEqual([plain_tone(PASSED, dial, 12) for dial in (3, 4, 8, 12, 13)], [None, None, 0, None, None])
        self.assertEqual([parting_way(PASSED, 10, 12, dial) for dial in (3, 4, 8, 12, 13)], [1, 0, 0, 1, 0])
        self.assertEqual([parting_dial(PASSED, 10, 12, dial) for dial in (3, 4, 11, 12)], [4, 4, 13, 13])
        ahead = ([("pass", 3, 5), ("dial", 0)], 2)
        self.assertEqual([parting_way(ahead, 4, 6, dial) for dial in (-BIG, 0, BIG)], [0, 0, 0])

    def test_the_way_down_and_up_are_equally_far(self):
        # Without a sampler two signals have one tone only at the dial in the middle.
        receiver = ([("dial", 0)], None)
        self.assertEqual([parting_way(receiver, 10, 16, dial) for dial in (12, 13, 14)], [0, 1, 0])
        self.assertEqual(parting_dial(receiver, 10, 16, 13), 14)
        # At the dials 10 to 12 both are silent, at 7 both have the tone 1, at 9 and 13 one of them is heard.
        self.assertEqual([parting_way(PASSED, 10, 12, dial) for dial in (10, 11, 12)], [1, 2, 1])
        far = ([("dial", 0), ("pass", BIG, 10 ** 39)], None)
        self.assertEqual([parting_way(far, 0, 2, dial) for dial in (0, 1, 2)], [BIG - 2, BIG - 1, BIG - 2])
        self.assertEqual(parting_dial(far, 0, 2, 1), BIG)

    def test_only_the_way_down(self):
        self.assertEqual([parting_way(PASSED, 10, 12, dial) for dial in (18, 19, 118, BIG)], [0, 1, 100, BIG - 18])
        self.assertEqual([parting_dial(PASSED, 10, 12, dial) for dial in (18, 19, BIG)], [18, None, None])

    def test_dials_below_0(self):
        far = ([("dial", 100), ("pass", 0, 2)], None)
        self.assertEqual([parting_dial(far, 7, 8, dial) for dial in (-BIG, -95, -94, -92, -89)],
                         [-95, -95, -94, -92, None])
        self.assertEqual([parting_way(far, 7, 8, dial) for dial in (-96, -95, -93, -90, 0)], [1, 0, 0, 0, 90])

    def test_even_and_odd_rates(self):
        for rate in (2, 4, 10, 10 ** 30):
            receiver = ([("dial", 0)], rate)
            self.assertEqual([parting_way(receiver, 5, 6, dial) for dial in (-BIG, 0, BIG)], [0, 0, 0])
            self.assertIsNone(parting_way(receiver, 5, 5 + 3 * rate, 0))
        for rate in (3, 5, 11, 10 ** 30 + 1):
            receiver = ([("dial", 0)], rate)
            dial = next_clash(receiver, 5, 6, 0)
            self.assertEqual([parting_way(receiver, 5, 6, place) for place in (dial - 1, dial, dial + 1)], [0, 1, 0])
            self.assertIsNone(parting_dial(receiver, 5, 5 + 3 * rate, -BIG))


class Great(unittest.TestCase):
    """Numbers of 30 to 40 digits."""

    def test_the_nearest_dial(self):
        source = random.Random(203)
        many_found = 0
        for receiver, place in great_receivers(204, 400):
            dialed = with_dial(source, receiver)
            one = source.randrange(10 ** source.choice([3, 30, 39]))
            other = one + source.choice([1, 2, receiver[1] or 4, source.randrange(10 ** 39)])
            for dial in (place, 0, -place, one):
                up, way = parting_dial(dialed, one, other, dial), parting_way(dialed, one, other, dial)
                if way is None:
                    self.assertIsNone(up)
                    continue
                many_found += way > 0
                ends = [end for end in (dial - way, dial + way) if plain_parts(dialed, one, other, end)]
                self.assertTrue(ends)
                self.assertTrue(up is None or (plain_parts(dialed, one, other, up) and up - dial >= way))
                self.assertEqual(up == dial + way, dial + way in ends)
                for steps in {0, 1, way // 2, way - 1, source.randrange(way + 1)}:
                    if 0 <= steps < way:
                        self.assertFalse(plain_parts(dialed, one, other, dial + steps))
                        self.assertFalse(plain_parts(dialed, one, other, dial - steps))
        self.assertGreater(many_found, 100)

    def test_no_dial_ahead_of_the_first_one_parts(self):
        source = random.Random(205)
        for receiver, place in great_receivers(206, 200):
            # Without a pass behind the dial nothing is silent there: up to the first parting all dials clash.
            dialed = with_dial(source, ([stage for stage in receiver[0] if stage[0] != "pass"] or [("mix", 7)],
                                        receiver[1]))
            one = source.randrange(10 ** source.choice([3, 30, 39]))
            other = one + source.choice([1, 2, receiver[1] or 4, source.randrange(10 ** 39)])
            for dial in (place, 0, -place):
                up = parting_dial(dialed, one, other, dial)
                last = 10 ** 41 if up is None else up - 1
                if last >= dial:
                    self.assertEqual(count_clashes(dialed, one, other, dial, last), last - dial + 1)

    def test_windows_around_great_dials(self):
        source = random.Random(207)
        for receiver, _ in small_receivers(208, 150):
            stages, rate = with_dial(source, receiver)
            one, other = source.randint(0, 15), source.randint(0, 15)
            for add in (BIG, -BIG):
                far = ([("dial", add + stage[1]) if stage[0] == "dial" else stage for stage in stages], rate)
                for dial in range(-30, 31, 5):
                    near = parting_dial((stages, rate), one, other, dial)
                    self.assertEqual(parting_dial(far, one, other, dial - add), None if near is None else near - add)
                    self.assertEqual(parting_way(far, one, other, dial - add),
                                     parting_way((stages, rate), one, other, dial))


class Calls(unittest.TestCase):
    def test_wrong_arguments(self):
        for receiver in (PASSED, PLAIN, DEEP, UNDIALED):
            for call in (parting_dial, parting_way):
                assert_wrong_arguments(self, call, ["receiver", "signal", "signal", "dial"], [receiver, 3, 4, 7])

    def test_a_dial_stage_that_is_not_there(self):
        for receiver in (UNDIALED, ([("pass", 5, 6)], None), ([("mix", 0)] * 8, 2)):
            for call, (one, other) in itertools.product((parting_dial, parting_way), [(0, 0), (5, BIG), (0, 1)]):
                self.assertEqual(told_error(call, (receiver, one, other, 7)), ("Impossible", None))

    def test_calls_change_nothing(self):
        receiver = ([("mix", 6), ("dial", -2), ("mix", 3)], 5)
        before = copy.deepcopy(receiver)
        first = [call(receiver, 9, 3, -BIG) for call in (parting_dial, parting_way)]
        for call in (parting_dial, parting_way):
            for value, told in WRONG["dial"]:
                self.assertEqual(told_error(call, (receiver, 9, 3, value)), told)
        self.assertEqual([call(receiver, 9, 3, -BIG) for call in (parting_dial, parting_way)], first)
        self.assertEqual(receiver, before)

    def test_by_position_and_by_name(self):
        self.assertEqual(parting_dial(dial=10, other=12, one=10, receiver=PASSED), 13)
        self.assertEqual(parting_way(dial=11, other=12, one=10, receiver=PASSED), 2)


if __name__ == "__main__":
    unittest.main()
