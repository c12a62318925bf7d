"""[16]: dials at which two signals clash, against going through the dials one by one."""

import copy
import itertools
import random
import unittest

from imagetones.clashes import count_clashes, next_clash
from imagetones.dials import count_dials, next_dial
from plain import BIG, beyond_dials, great_receivers, plain_tone, small_receivers, with_dial
from wrong import WRONG, assert_wrong_arguments, assert_wrong_order, told_error

PASSED, PLAIN, ODD = ([("dial", 0), ("pass", 3, 6), ("mix", 4)], None), ([("dial", 0)], 4), ([("dial", 0)], 5)
DEEP = ([("mix", 6), ("dial", -2), ("mix", 3), ("pass", 0, 8)], 5)
UNDIALED = ([("mix", 5), ("pass", 0, 9)], 4)


def plain_clash(receiver, one, other, dial):
    tone = plain_tone(receiver, dial, one)
    return tone is not None and tone == plain_tone(receiver, dial, other)


def plain_clashes(receiver, one, other, low, high):
    return [dial for dial in range(low, high + 1) if plain_clash(receiver, one, other, dial)]


class Small(unittest.TestCase):
    def assert_all(self, receiver, one, other):
        where = (receiver, one, other)
        # Beyond all turns what the rate makes comes again, so the first clash from there on lies up to the end.
        inner = max(beyond_dials(receiver, one), beyond_dials(receiver, other))
        end = inner + 2 * (receiver[1] or 0) + 2
        found = plain_clashes(receiver, one, other, -end, end)
        for dial in range(-inner, inner + 1):
            behind = [place for place in found if place >= dial]
            self.assertEqual(next_clash(receiver, one, other, dial), behind[0] if behind else None, (where, dial))
        for least, greatest in itertools.product(range(-end, end + 1, 9), repeat=2):
            if least <= greatest:
                many = sum(least <= place <= greatest for place in found)
                self.assertEqual(count_clashes(receiver, one, other, least, greatest), many, where)

    def test_a_dial_stage_alone(self):
        for add, rate, one, other in itertools.product((0, 3, -2), (None, 2, 3, 4, 5, 6), (0, 1, 7), (0, 2, 5, 7, 11)):
            self.assert_all(([("dial", add)], rate), one, other)

    def test_many_receivers(self):
        source = random.Random(161)
        for receiver, _ in small_receivers(162, 500):
            one = source.randint(0, 12)
            other = source.choice([one, one + 1, one + 2, source.randint(0, 12)])
            self.assert_all(with_dial(source, receiver), one, other)

    def test_the_order_of_the_signals_does_not_matter(self):
        source = random.Random(163)
        for receiver, dial in small_receivers(164, 100):
            dialed = with_dial(source, receiver)
            one, other = source.randint(0, 12), source.randint(0, 12)
            self.assertEqual(next_clash(dialed, one, other, dial), next_clash(dialed, other, one, dial))
            self.assertEqual(count_clashes(dialed, one, other, dial, dial + 40),
                             count_clashes(dialed, other, one, dial, dial + 40))


class Named(unittest.TestCase):
    """Cases that the document and its edges name."""

    def test_a_signal_clashes_with_itself_wherever_it_is_heard(self):
        source = random.Random(165)
        for receiver, dial in small_receivers(166, 100):
            dialed = with_dial(source, receiver)
            signal = source.randint(0, 12)
            self.assertEqual(next_clash(dialed, signal, signal, dial), next_dial(dialed, signal, (0, BIG), dial))
            self.assertEqual(count_clashes(dialed, signal, signal, dial, dial + 50),
                             count_dials(dialed, signal, (0, BIG), dial, dial + 50))
        self.assertEqual(count_clashes(ODD, 7, 7, -BIG, BIG), 2 * BIG + 1)

    def test_two_silences_are_no_clash(self):
        self.assertEqual([plain_tone(PASSED, 11, signal) for signal in (10, 12)], [None, None])
        self.assertEqual([count_clashes(PASSED, 10, 12, dial, dial) for dial in (6, 7, 8, 11, 15)], [0, 1, 0, 0, 1])
        ahead = ([("pass", 3, 5), ("dial", 0)], 4)
        for one, other in [(2, 2), (2, 6), (2, 4), (4, 2)]:
            self.assertIsNone(next_clash(ahead, one, other, -BIG))
            self.assertEqual(count_clashes(ahead, one, other, -BIG, BIG), 0)
        self.assertEqual(count_clashes(ahead, 3, 5, -BIG, BIG - 1), BIG)

    def test_one_dial(self):
        for receiver, one, other in [(PASSED, 10, 12), (PLAIN, 10, 12), (ODD, 10, 13), (DEEP, 3, 9), (DEEP, 4, 4)]:
            for dial in range(-30, 31):
                many = 1 if plain_clash(receiver, one, other, dial) else 0
                self.assertEqual(count_clashes(receiver, one, other, dial, dial), many)
                self.assertEqual(next_clash(receiver, one, other, dial) == dial, many == 1)

    def test_without_a_sampler_only_the_middle_dial(self):
        receiver = ([("dial", -4)], None)
        self.assertEqual([next_clash(receiver, 10, 16, dial) for dial in (-BIG, 17, 18)], [17, 17, None])
        self.assertEqual([count_clashes(receiver, 10, 16, -BIG, greatest) for greatest in (16, 17, BIG)], [0, 1, 1])
        self.assertEqual([next_clash(receiver, 10, 15, -BIG), count_clashes(receiver, 10, 15, -BIG, BIG)], [None, 0])

    def test_dials_below_0(self):
        far = ([("dial", 100)], None)
        self.assertEqual([next_clash(far, 2, 8, dial) for dial in (-BIG, -95, -94, 0)], [-95, -95, None, None])
        self.assertEqual([count_clashes(far, 2, 8, least, greatest)
                          for least, greatest in [(-100, -96), (-100, -95), (-95, -95), (-94, BIG)]], [0, 1, 1, 0])
        sampled = ([("dial", 100)], 6)
        self.assertEqual([next_clash(sampled, 2, 8, dial) for dial in (-BIG, -95, -1)], [-BIG, -95, -1])

    def test_even_and_odd_rates(self):
        for rate in (2, 4, 10, 10 ** 30):
            receiver = ([("dial", 0)], rate)
            # By an even rate signals an odd number of steps apart have different tones everywhere.
            self.assertIsNone(next_clash(receiver, 5, 6, -BIG))
            self.assertEqual(count_clashes(receiver, 5, 6, -BIG, BIG), 0)
            self.assertEqual(count_clashes(receiver, 5, 5 + rate, -BIG, BIG), 2 * BIG + 1)
            self.assertEqual(count_clashes(receiver, 5, 7, 0, 4 * rate - 1), 8)
        for rate in (3, 5, 11, 10 ** 30 + 1):
            receiver = ([("dial", 0)], rate)
            for other in (6, 7, 5 + rate // 2):
                if other != 5:
                    self.assertEqual(count_clashes(receiver, 5, other, 0, 4 * rate - 1), 4)
                    dial = next_clash(receiver, 5, other, 0)
                    self.assertEqual(next_clash(receiver, 5, other, dial + 1), dial + rate)

    def test_rate_2(self):
        receiver = ([("dial", 0), ("mix", 3), ("pass", 0, 9)], 2)
        for one, other in itertools.product(range(6), repeat=2):
            found = plain_clashes(receiver, one, other, -40, 40)
            self.assertEqual(count_clashes(receiver, one, other, -BIG, BIG), len(found))
            self.assertEqual(next_clash(receiver, one, other, -BIG), found[0] if found else None)


class Great(unittest.TestCase):
    """Numbers of 30 to 40 digits."""

    def signals(self, source, rate):
        one = source.randrange(10 ** source.choice([3, 30, 39]))
        near = [one, one + 2, one + (rate or 4), one + source.randrange(10 ** source.choice([2, 20, 39]))]
        return one, source.choice(near)

    def test_the_next_clash_is_one_and_the_nearest(self):
        source = random.Random(167)
        many_found = 0
        for receiver, place in great_receivers(168, 400):
            dialed = with_dial(source, receiver)
            one, other = self.signals(source, receiver[1])
            for dial in (place, 0, -place, one):
                found = next_clash(dialed, one, other, dial)
                many_found += found is not None
                away = 10 ** 40 if found is None else found - dial
                self.assertGreaterEqual(away, 0)
                if found is not None:
                    self.assertTrue(plain_clash(dialed, one, other, found))
                    self.assertEqual(count_clashes(dialed, one, other, dial, found), 1)
                for steps in {0, 1, away // 2, away - 1, source.randrange(away + 1)}:
                    if 0 <= steps < away:
                        self.assertFalse(plain_clash(dialed, one, other, dial + steps))
        self.assertGreater(many_found, 200)

    def test_counts_add_up(self):
        source = random.Random(169)
        for receiver, _ in great_receivers(170, 200):
            dialed = with_dial(source, receiver)
            one, other = self.signals(source, receiver[1])
            least, cut, greatest = sorted([source.randint(-10 ** 39, 10 ** 39) for _ in range(3)])
            parts = [count_clashes(dialed, one, other, least, cut),
                     count_clashes(dialed, one, other, cut + 1, greatest)]
            self.assertEqual(sum(parts), count_clashes(dialed, one, other, least, greatest))

    def test_windows_around_great_dials(self):
        source = random.Random(171)
        for receiver, _ in small_receivers(172, 200):
            stages, rate = with_dial(source, receiver)
            one, other = source.randint(0, 15), source.randint(0, 15)
            for add in (BIG, -BIG):
                far = ([("dial", add + stage[1]) if stage[0] == "dial" else stage for stage in stages], rate)
                low, high = -add - 40, -add + 40
                found = plain_clashes(far, one, other, low, high)
                self.assertEqual(count_clashes(far, one, other, low, high), len(found))
                for dial in range(low, high + 1, 5):
                    behind = [place for place in found if place >= dial]
                    if behind:
                        self.assertEqual(next_clash(far, one, other, dial), behind[0])

    def test_great_counts(self):
        # Beyond both signals the distances differ by 10, a multiple of 5; between them they add up to 10.
        self.assertEqual(count_clashes(([("dial", 0)], 5), 10, 20, -BIG, BIG), 2 * BIG + 1)
        wide = ([("dial", 0), ("pass", 10 ** 20, 10 ** 38)], 10)
        self.assertEqual(count_clashes(wide, 0, 10, -10 ** 39, 10 ** 39), 2 * (10 ** 38 - 10 ** 20 - 9))
        self.assertEqual(count_clashes(PLAIN, BIG, BIG + 2, -4 * BIG, 4 * BIG - 1), 4 * BIG)


class Calls(unittest.TestCase):
    def test_wrong_arguments(self):
        for receiver in (PASSED, PLAIN, DEEP, UNDIALED):
            assert_wrong_arguments(self, next_clash, ["receiver", "signal", "signal", "dial"], [receiver, 3, 4, 7])
            assert_wrong_arguments(self, count_clashes, ["receiver", "signal", "signal", "dial", "dial"],
                                   [receiver, 3, 4, -7, 9])
            assert_wrong_order(self, count_clashes, ["receiver", "signal", "signal"], [receiver, 3, 4])

    def test_equal_dials_are_in_order(self):
        for dial in (-BIG, -1, 0, 1, BIG):
            self.assertIsNone(told_error(count_clashes, (PASSED, 3, 4, dial, dial)))

    def test_a_dial_stage_that_is_not_there(self):
        for receiver in (UNDIALED, ([("pass", 5, 6)], None), ([("mix", 0)] * 8, 2)):
            for one, other in [(0, 0), (5, BIG), (0, 1)]:
                self.assertEqual(told_error(next_clash, (receiver, one, other, 7)), ("Impossible", None))
                self.assertEqual(told_error(count_clashes, (receiver, one, other, 7, 7)), ("Impossible", None))

    def test_calls_change_nothing(self):
        receiver = ([("mix", 6), ("dial", -2), ("mix", 3)], 5)
        before = copy.deepcopy(receiver)
        first = [next_clash(receiver, 9, 3, -BIG), count_clashes(receiver, 9, 3, -99, 99)]
        for value, told in WRONG["dial"]:
            self.assertEqual(told_error(next_clash, (receiver, 9, 3, value)), told)
            self.assertEqual(told_error(count_clashes, (receiver, 9, 3, 0, value)), told)
        self.assertEqual([next_clash(receiver, 9, 3, -BIG), count_clashes(receiver, 9, 3, -99, 99)], first)
        self.assertEqual(receiver, before)

    def test_by_position_and_by_name(self):
        self.assertEqual(next_clash(dial=8, other=12, one=10, receiver=PASSED), 15)
        self.assertEqual(count_clashes(greatest=14, least=0, other=12, one=10, receiver=PASSED), 1)


if __name__ == "__main__":
    unittest.main()
