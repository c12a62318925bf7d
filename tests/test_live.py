"""[21] to [23]: the live scanner, against a list of its calls that is carried out anew each time."""

import copy
import random
import unittest

from imagetones.errors import (Impossible, InvalidBand, InvalidDial, InvalidNumber, InvalidSignal, NothingToUndo,
                               ToneError)
from imagetones.live import LiveScanner
from plain import BIG, beyond_dials, great_receivers, is_in, plain_tone, small_receivers, some_bands, with_dial
from wrong import WRONG, told_error

PASSED, PLAIN = ([("dial", 0), ("pass", 3, 6), ("mix", 4)], None), ([("dial", 0)], 4)
UNDIALED = ([("mix", 5), ("pass", 0, 9)], 4)
KINDS = {"tune": "dial", "set_step": "step", "go": "positive", "switch": "signal", "seek": "band"}
WRONG_POSITIVES = WRONG["number"] + [(0, ("InvalidNumber", None))]


def plain_state(receiver, log):
    """The dial, the step and the stations behind some calls, read call by call."""
    dial, step, stations = 0, 1, []
    for name, value in log:
        if name == "tune":
            dial = value
        elif name == "step":
            step = value
        elif name == "go":
            dial += step * value
        elif name == "switch":
            stations = sorted(set(stations) ^ {value})
        else:
            dial += step
            while not any(is_in(value, plain_tone(receiver, dial, signal)) for signal in stations):
                dial += step
    return dial, step, stations


def finds(receiver, state, band):
    """Whether seeking finds something, by going on to an end behind which nothing new comes."""
    dial, step, stations = state
    inner = max([beyond_dials(receiver, signal) for signal in stations], default=0) + band[1]
    many = (abs(dial) + inner) // abs(step) + 3 + (receiver[1] or 0)
    return any(is_in(band, plain_tone(receiver, dial + index * step, signal))
               for index in range(1, many + 1) for signal in stations)


def carry_out(scanner, call):
    name, value = call
    method = "set_step" if name == "step" else name
    return getattr(scanner, method)(value)


def told_all(scanner):
    """All that a scanner tells of itself."""
    return [scanner.dial, scanner.step, scanner.stations, scanner.tones, scanner.log, len(scanner)]


def some_call(source, receiver):
    name = source.choice(["tune", "step", "go", "switch", "switch", "seek", "seek"])
    if name == "tune":
        return name, source.randint(-30, 30)
    if name == "step":
        return name, source.choice([1, -1, 2, -3, 4, 5, -7])
    if name == "go":
        return name, source.randint(1, 9)
    if name == "switch":
        return name, source.randint(0, 9)
    return name, some_bands(source, receiver[1], 1)[0]


class Model(unittest.TestCase):
    def assert_state(self, scanner, receiver, log):
        dial, step, stations = plain_state(receiver, log)
        tones = [plain_tone(receiver, dial, signal) for signal in stations]
        self.assertEqual(told_all(scanner), [dial, step, stations, tones, log, len(log)])

    def turn(self, source, scanner, receiver, log):
        """One call of a scanner, and of the list of its calls."""
        if source.random() < 0.2:
            if log:
                self.assertIsNone(scanner.undo())
                log.pop()
            else:
                self.assertRaises(NothingToUndo, scanner.undo)
            return
        name, value = some_call(source, receiver)
        state = plain_state(receiver, log)
        if name == "seek" and not finds(receiver, state, value):
            self.assertRaises(Impossible, scanner.seek, value)
        elif name == "switch" and value not in state[2] and len(state[2]) == 4:
            self.assertRaises(InvalidNumber, scanner.switch, value)
        else:
            self.assertIsNone(carry_out(scanner, (name, value)))
            log.append((name, value))

    def test_many_calls(self):
        source = random.Random(211)
        for receiver, _ in small_receivers(212, 80):
            dialed = with_dial(source, receiver)
            scanner, log = LiveScanner(dialed), []
            for _ in range(25):
                self.turn(source, scanner, dialed, log)
                self.assert_state(scanner, dialed, log)
            while log:
                scanner.undo()
                log.pop()
                self.assert_state(scanner, dialed, log)

    def test_two_hundred_calls(self):
        source = random.Random(213)
        for receiver in (PASSED, PLAIN):
            scanner, log, states = LiveScanner(receiver), [], []
            while len(log) < 200:
                states.append(told_all(scanner))
                many = len(log)
                while len(log) <= many:
                    call = some_call(source, receiver)
                    if told_error(carry_out, (scanner, call)) is None:
                        log.append(call)
            self.assert_state(scanner, receiver, log)
            for state in reversed(states):
                scanner.undo()
                self.assertEqual(told_all(scanner), state)
            self.assertRaises(NothingToUndo, scanner.undo)

    def test_forks_go_their_own_ways(self):
        source = random.Random(215)
        for receiver, _ in small_receivers(216, 40):
            dialed = with_dial(source, receiver)
            pairs = [(LiveScanner(dialed), [])]
            for _ in range(30):
                scanner, log = source.choice(pairs)
                if source.random() < 0.15:
                    pairs.append((scanner.fork(), list(log)))
                self.turn(source, scanner, dialed, log)
                for other, told in pairs:
                    self.assertEqual(other.log, told)
            for scanner, log in pairs:
                self.assert_state(scanner, dialed, log)
                for other, told in pairs:
                    self.assertIs(scanner == other, log == told)
                    self.assertIs(scanner != other, log != told)


class Named(unittest.TestCase):
    """Cases that the document and its edges name."""

    def test_the_first_state(self):
        for receiver in (PASSED, PLAIN, ([("mix", 2), ("dial", -5)], None)):
            self.assertEqual(told_all(LiveScanner(receiver)), [0, 1, [], [], [], 0])

    def test_a_fifth_station(self):
        scanner = LiveScanner(PLAIN)
        for signal in (8, 2, 9, 0):
            scanner.switch(signal)
        self.assertEqual(scanner.stations, [0, 2, 8, 9])
        before = told_all(scanner)
        self.assertRaises(InvalidNumber, scanner.switch, 5)
        self.assertEqual(told_all(scanner), before)
        scanner.switch(8)
        scanner.switch(5)
        self.assertEqual([scanner.stations, scanner.tones], [[0, 2, 5, 9], [0, 2, 1, 1]])
        self.assertRaises(InvalidNumber, scanner.switch, BIG)
        for wrong, told in WRONG["signal"]:
            self.assertEqual(told_error(scanner.switch, (wrong,)), told)

    def test_a_station_is_taken_off_and_put_on_again(self):
        scanner = LiveScanner(PLAIN)
        told = []
        for signal in (3, 7, 3, 3, 7):
            scanner.switch(signal)
            told.append(scanner.stations)
        self.assertEqual(told, [[3], [3, 7], [7], [3, 7], [3]])
        self.assertEqual(scanner.log, [("switch", signal) for signal in (3, 7, 3, 3, 7)])
        for state in reversed([[]] + told[:-1]):
            scanner.undo()
            self.assertEqual(scanner.stations, state)

    def test_seeking_where_nothing_is_to_be_found(self):
        scanner = LiveScanner(PASSED)
        self.assertRaises(Impossible, scanner.seek, (0, BIG))
        scanner.switch(10)
        scanner.tune(16)
        # The last dial with a tone is 16: only dials from 17 on are reached.
        before = told_all(scanner)
        self.assertRaises(Impossible, scanner.seek, (0, 9))
        self.assertRaises(Impossible, scanner.seek, (7, 9))
        self.assertEqual(told_all(scanner), before)
        scanner.set_step(-1)
        scanner.seek((0, 9))
        self.assertEqual([scanner.dial, scanner.tones], [15, [1]])
        even = LiveScanner(([("dial", 0)], 4))
        even.switch(1)
        even.set_step(2)
        self.assertRaises(Impossible, even.seek, (0, 0))
        even.go(1)
        even.seek((1, 1))
        self.assertEqual([even.dial, even.log[-1]], [4, ("seek", (1, 1))])

    def test_seeking_goes_one_step_at_least(self):
        scanner = LiveScanner(PLAIN)
        scanner.switch(0)
        self.assertEqual(scanner.tones, [0])
        for dial in (4, 8, 12):
            scanner.seek((0, 0))
            self.assertEqual([scanner.dial, scanner.tones], [dial, [0]])

    def test_steps_below_0(self):
        scanner = LiveScanner(PASSED)
        scanner.switch(10)
        for step, dial, found in [(-1, 14, 13), (-4, 26, 14), (-4, 14, 6), (-3, 16, 13), (-8, 14, 6)]:
            scanner.set_step(step)
            scanner.tune(dial)
            scanner.seek((0, 1))
            self.assertEqual([scanner.dial, scanner.step], [found, step])
        scanner.go(3)
        self.assertEqual(scanner.dial, 6 - 24)

    def test_undo_of_each_kind_of_call(self):
        scanner = LiveScanner(PASSED)
        calls = [("switch", 12), ("tune", -4), ("step", 3), ("seek", (0, 0)), ("go", 5), ("switch", 12), ("step", -1)]
        states = []
        for call in calls:
            states.append(told_all(scanner))
            carry_out(scanner, call)
        self.assertEqual(scanner.log, calls)
        for state in reversed(states):
            self.assertIsNone(scanner.undo())
            self.assertEqual(told_all(scanner), state)
        self.assertRaises(NothingToUndo, scanner.undo)
        self.assertEqual(told_all(scanner), [0, 1, [], [], [], 0])
        scanner.tune(8)
        scanner.undo()
        self.assertRaises(NothingToUndo, scanner.undo)

    def test_undo_takes_back_a_call_that_changed_nothing(self):
        scanner = LiveScanner(PLAIN)
        scanner.tune(0)
        scanner.set_step(1)
        self.assertEqual(len(scanner), 2)
        scanner.undo()
        self.assertEqual(scanner.log, [("tune", 0)])

    def test_forks(self):
        one = LiveScanner(PASSED)
        one.switch(10)
        one.tune(7)
        other = one.fork()
        self.assertIsInstance(other, LiveScanner)
        self.assertEqual(told_all(one), told_all(other))
        other.undo()
        other.go(3)
        one.switch(12)
        self.assertEqual(told_all(one), [7, 1, [10, 12], [1, 1], [("switch", 10), ("tune", 7), ("switch", 12)], 3])
        self.assertEqual(told_all(other), [3, 1, [10], [None], [("switch", 10), ("go", 3)], 2])
        other.undo()
        other.undo()
        self.assertRaises(NothingToUndo, other.undo)
        self.assertEqual(len(one), 3)

    def test_equal_scanners(self):
        one, other = LiveScanner(PASSED), LiveScanner(copy.deepcopy(PASSED))
        self.assertTrue(one == other and not one != other)
        one.tune(5)
        self.assertFalse(one == other)
        other.tune(5)
        self.assertTrue(one == other)
        # Another way to one state is another log.
        one.go(2)
        other.tune(7)
        self.assertEqual([one.dial, one.stations], [other.dial, other.stations])
        self.assertFalse(one == other)
        one.undo()
        other.undo()
        self.assertTrue(one == other)
        self.assertFalse(LiveScanner(PASSED) == LiveScanner(PLAIN))
        self.assertFalse(LiveScanner(([("dial", 0)], None)) == LiveScanner(PLAIN))

    def test_other_values_are_unequal(self):
        scanner = LiveScanner(PLAIN)
        for value in (None, 0, False, "", [], (), PLAIN, {}, scanner.log, LiveScanner, object(), ToneError("why")):
            self.assertIs(scanner == value, False)
            self.assertIs(scanner != value, True)
            self.assertIs(value == scanner, False)


class Great(unittest.TestCase):
    def test_seeking(self):
        source = random.Random(217)
        many_found = 0
        for receiver, dial in great_receivers(218, 400):
            dialed = with_dial(source, receiver)
            scanner = LiveScanner(dialed)
            for _ in range(source.randint(1, 4)):
                scanner.switch(source.randrange(10 ** source.choice([3, 30, 39])))
            step = source.choice([1, -1]) * source.randrange(1, 10 ** source.choice([1, 20, 39]))
            scanner.tune(dial)
            scanner.set_step(step)
            low = source.randrange(10 ** source.choice([1, 20, 30, 39]))
            band = (low, low + source.randrange(10 ** source.choice([10, 29, 39])))
            if told_error(scanner.seek, (band,)) is not None:
                continue
            many_found += 1
            self.assertTrue(any(is_in(band, tone) for tone in scanner.tones))
            self.assertEqual(scanner.tones, [plain_tone(dialed, scanner.dial, signal) for signal in scanner.stations])
            many, rest = divmod(scanner.dial - dial, step)
            self.assertTrue(rest == 0 and many >= 1)
            for index in {1, 2, many // 2, many - 1}:
                if 0 < index < many:
                    tones = [plain_tone(dialed, dial + index * step, signal) for signal in scanner.stations]
                    self.assertFalse(any(is_in(band, tone) for tone in tones))
            scanner.undo()
            scanner.go(many)
            self.assertEqual(scanner.dial, dial + many * step)
        self.assertGreater(many_found, 60)

    def test_great_calls(self):
        scanner = LiveScanner(PLAIN)
        scanner.switch(4 * BIG)
        scanner.set_step(-10 ** 20)
        scanner.go(10 ** 39)
        self.assertEqual([scanner.dial, scanner.tones], [-10 ** 59, [0]])
        scanner.tune(-BIG)
        self.assertEqual([scanner.dial, scanner.tones], [-BIG, [1]])
        self.assertEqual(scanner.log[-2:], [("go", 10 ** 39), ("tune", -BIG)])


class Calls(unittest.TestCase):
    def test_wrong_receivers(self):
        for value, told in WRONG["receiver"]:
            self.assertEqual(told_error(LiveScanner, (value,)), told)
        for receiver in (UNDIALED, ([("pass", 5, 6)], None), ([("mix", 0)] * 8, 2)):
            self.assertEqual(told_error(LiveScanner, (receiver,)), ("Impossible", None))

    def test_wrong_arguments_change_nothing(self):
        scanner = LiveScanner(PASSED)
        for call in [("switch", 10), ("tune", 5), ("step", 2)]:
            carry_out(scanner, call)
        before = told_all(scanner)
        for name, kind in KINDS.items():
            for value, told in WRONG_POSITIVES if kind == "positive" else WRONG[kind]:
                self.assertEqual(told_error(getattr(scanner, name), (value,)), told, (name, value))
                self.assertEqual(told_all(scanner), before)
        self.assertRaises(Impossible, scanner.seek, (7, 9))
        # None of them can be taken back.
        scanner.undo()
        self.assertEqual([scanner.log, scanner.step], [[("switch", 10), ("tune", 5)], 1])

    def test_the_first_error_counts(self):
        scanner = LiveScanner(PLAIN)
        self.assertRaises(InvalidBand, scanner.seek, (2, 1))
        for signal in range(4):
            scanner.switch(signal)
        self.assertRaises(InvalidSignal, scanner.switch, -1)
        self.assertRaises(InvalidNumber, scanner.switch, 4)
        self.assertRaises(InvalidDial, scanner.tune, None)

    def test_arguments_are_not_kept(self):
        receiver = ([("dial", 0), ("pass", 3, 6), ("mix", 4)], None)
        scanner = LiveScanner(receiver)
        other = scanner.fork()
        scanner.switch(10)
        scanner.tune(7)
        receiver[0].append(("mix", 1))
        receiver[0][1] = ("pass", 0, 0)
        self.assertEqual(scanner.tones, [1])
        self.assertEqual([other == LiveScanner(PASSED), other == LiveScanner(receiver)], [True, False])
        band = tuple([0, 2])
        scanner.seek(band)
        self.assertEqual(scanner.log[-1], ("seek", band))
        self.assertIsNot(scanner.log[-1][1], band)
        before = copy.deepcopy(PASSED)
        carry_out(LiveScanner(PASSED), ("tune", 3))
        self.assertEqual(PASSED, before)

    def test_returned_lists_are_new(self):
        scanner = LiveScanner(PASSED)
        for call in [("switch", 10), ("switch", 12), ("tune", 7)]:
            carry_out(scanner, call)
        before = copy.deepcopy(told_all(scanner))
        for told in (scanner.stations, scanner.tones, scanner.log):
            told.append(99)
            told[0] = 98
        self.assertEqual(told_all(scanner), before)
        self.assertIsNot(scanner.log, scanner.log)
        scanner.undo()
        scanner.go(1)
        self.assertEqual(scanner.log, [("switch", 10), ("switch", 12), ("go", 1)])

    def test_by_position_and_by_name(self):
        scanner = LiveScanner(receiver=PASSED)
        scanner.switch(signal=10)
        scanner.tune(dial=4)
        scanner.set_step(step=2)
        scanner.go(many=1)
        scanner.seek(band=(0, 0))
        self.assertEqual([scanner.dial, scanner.tones], [14, [0]])

    def test_the_properties_are_not_set(self):
        scanner = LiveScanner(PASSED)
        for name in ("dial", "step", "stations", "tones", "log"):
            self.assertIsInstance(vars(LiveScanner)[name], property)
            self.assertRaises(AttributeError, setattr, scanner, name, 3)


if __name__ == "__main__":
    unittest.main()
