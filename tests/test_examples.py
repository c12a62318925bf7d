"""The examples of the document, word for word, carried out and compared with what stands below them."""

import unittest

from imagetones import errors

DEFINITIONS = '''
>>> from imagetones.receivers import tone_at
>>> plain, sampled = ([("mix", 5), ("mix", 2)], None), ([("mix", 5), ("mix", 2)], 4)
>>> [[tone_at(receiver, 0, signal) for signal in range(10)] for receiver in (plain, sampled)]
[[3, 2, 1, 0, 1, 2, 1, 0, 1, 2], [1, 2, 1, 0, 1, 2, 1, 0, 1, 2]]
>>> tuned = ([("dial", 0), ("pass", 3, 6), ("mix", 4)], None)
>>> [tone_at(tuned, 10, signal) for signal in range(3, 9)]
[None, 2, 1, 0, 1, None]
'''

RECEIVERS = '''
>>> from imagetones.receivers import is_receiver, stage_tones, tone_at
>>> [is_receiver(value) for value in [([("mix", 5)], None), ([("dial", -3), ("pass", 0, 9)], 2), ([], 4), ([("mix", -1)], None), ([("dial", 0), ("dial", 1)], 4), ([("mix", 5)], 1)]]
[True, True, False, False, False, False]
>>> [stage_tones(([("mix", 5), ("mix", 2)], 4), 0, 11), stage_tones(([("dial", 0), ("pass", 3, 6), ("mix", 4)], 7), 10, 5), stage_tones(([("dial", 0), ("pass", 3, 6), ("mix", 4)], 7), 10, 8)]
[[6, 4, 0], [5, 5, 1, 1], [2, None, None, None]]
>>> [tone_at(([("mix", 10 ** 29), ("dial", 5)], None), -8, 10 ** 28), tone_at(([("mix", 0)], 7), 0, 10 ** 30 - 1)]
[90000000000000000000000000003, 0]

>>> from imagetones.receivers import tone_at
>>> tone_at(([("dial", 0), ("dial", 1)], 4), 0, 0)
raises InvalidReceiver(index=1)

>>> from imagetones.receivers import tone_at
>>> tone_at(([("mix", 5)], 1), 0, 0)
raises InvalidReceiver(index=1)
'''

SLOPES = '''
>>> from imagetones.slopes import count_slopes, mixed_slopes, nth_slope, slopes_at
>>> plain, sampled, odd = ([("mix", 5), ("mix", 2)], None), ([("mix", 5), ("mix", 2)], 4), ([("mix", 5), ("mix", 2)], 5)
>>> mixed_slopes(plain, 0), mixed_slopes(sampled, 0) == mixed_slopes(plain, 0)
([(0, 3, 3, -1), (3, 5, 0, 1), (5, 7, 2, -1), (7, None, 0, 1)], True)
>>> mixed_slopes(([("dial", 0), ("pass", 3, 6), ("mix", 4)], None), 10)
[(4, 6, 2, -1), (6, 7, 0, 1), (13, 14, 1, -1), (14, 16, 0, 1)]
>>> [nth_slope(sampled, 0, index) for index in (0, 1, 2, 10 ** 29)]
[(0, 1, 1, 1), (1, 3, 2, -1), (3, 5, 0, 1), (199999999999999999999999999999, 200000000000000000000000000001, 0, 1)]
>>> [nth_slope(odd, 0, index) for index in (0, 3, 4)], nth_slope(plain, 0, 4)
([(1, 3, 2, -1), (7, 9, 0, 1), (10, 12, 2, -1)], None)
>>> [count_slopes(sampled, 0, far) for far in (0, 1, 2, 10 ** 29)], [slopes_at(odd, 0, signal) for signal in (0, 2, 3)]
([1, 2, 2, 50000000000000000000000000001], [[], [(1, 3, 2, -1)], [(1, 3, 2, -1), (3, 5, 0, 1)]])
'''

HEARD = '''
>>> from imagetones.heard import count_heard, last_heard, next_heard, nth_heard
>>> plain, sampled = ([("mix", 5), ("mix", 2)], None), ([("mix", 5), ("mix", 2)], 4)
>>> [next_heard(plain, 0, (2, 3), signal) for signal in (0, 1, 2, 6, 10, 11)]
[0, 1, 5, 9, 10, None]
>>> [next_heard(sampled, 0, (0, 0), signal) for signal in (0, 4, 8, 10 ** 29)], last_heard(sampled, 0, (0, 0), 10 ** 29)
([3, 7, 11, 100000000000000000000000000003], 99999999999999999999999999999)
>>> [last_heard(plain, 0, (0, 0), signal) for signal in (2, 3, 6, 10 ** 29)]
[None, 3, 3, 7]
>>> [count_heard(plain, 0, (0, 1), far) for far in (0, 4, 8, 99)], count_heard(sampled, 0, (2, 2), 10 ** 29)
([0, 3, 6, 6], 25000000000000000000000000000)
>>> [nth_heard(plain, 0, (0, 1), index) for index in (0, 5, 6)], nth_heard(sampled, 0, (0, 0), 10 ** 29)
([2, 8, None], 400000000000000000000000000003)

>>> from imagetones.heard import count_heard, next_heard
>>> tuned = ([("dial", 0), ("pass", 3, 6), ("mix", 4)], None)
>>> [next_heard(tuned, dial, (0, 0), 0) for dial in (10, 4, -3, -4, -5)], count_heard(tuned, 10, (0, 9), 10 ** 29)
([6, 0, 1, 0, None], 8)
'''

IMAGES = '''
>>> from imagetones.images import image_count, image_rows, next_image
>>> plain, sampled = ([("mix", 5), ("mix", 2)], None), ([("mix", 5), ("mix", 2)], 4)
>>> [image_rows(plain, 0, tone) for tone in (0, 2, 9)]
[[(3, 1, 1), (7, 1, 1)], [(1, 1, 1), (5, 1, 1), (9, 1, 1)], [(16, 1, 1)]]
>>> [image_rows(sampled, 0, tone) for tone in (0, 1, 3)]
[[(3, 1, 1), (7, 4, None)], [(0, 1, 1), (2, 1, 1), (4, 1, 1), (6, 1, 1), (8, 4, None), (10, 4, None)], []]
>>> image_rows(([("mix", 20)], 5), 0, 0), image_rows(([("mix", 0), ("pass", 0, 9)], 4), 0, 1)
([(0, 5, 4), (20, 5, None)], [(1, 4, 3), (3, 4, 2)])
>>> [image_count(plain, 0, 1, far) for far in (0, 5, 99)], image_count(sampled, 0, 3, 10 ** 29)
([0, 2, 3], 25000000000000000000000000000)
>>> [next_image(plain, 0, signal) for signal in (1, 5, 9)], next_image(sampled, 0, 10 ** 29)
([5, 9, None], 100000000000000000000000000002)
>>> next_image(([("pass", 3, 6)], None), 0, 2)
raises Impossible
'''

ALIKE = '''
>>> from imagetones.alike import first_unlike, next_unlike
>>> plain, sampled = ([("mix", 5), ("mix", 2)], None), ([("mix", 5), ("mix", 2)], 4)
>>> [first_unlike(plain, sampled, 0), next_unlike(plain, sampled, 0, 1), first_unlike(plain, ([("mix", 5), ("mix", 2), ("mix", 0)], None), 0)]
[0, 10, None]
>>> [first_unlike(([("mix", 0)], 4), ([("mix", 0)], 6), 0), first_unlike(([("mix", 0)], 10 ** 29), ([("mix", 0)], 10 ** 29 + 2), 0)]
[3, 50000000000000000000000000001]
>>> first_unlike(([("mix", 3)], None), ([("mix", 3), ("pass", 0, 10 ** 29)], None), 0) == 10 ** 29 + 4
True
>>> [first_unlike(([("mix", 9)], None), ([("dial", 1)], None), dial) for dial in (8, -10, 7)]
[None, 1, 0]

>>> from imagetones.alike import idle_stages, trimmed_receiver
>>> wide = ([("mix", 0), ("mix", 5), ("pass", 0, 9), ("pass", 0, 20)], None)
>>> [idle_stages(wide, 0), trimmed_receiver(wide, 0)]
[[0, 3], ([('mix', 5), ('pass', 0, 9)], None)]
>>> twice = ([("pass", 0, 9), ("pass", 0, 9)], 3)
>>> [idle_stages(twice, 0), trimmed_receiver(twice, 0), trimmed_receiver(([("mix", 0), ("mix", 0)], None), 0)]
[[0, 1], ([('pass', 0, 9)], 3), ([('mix', 0)], None)]
>>> [idle_stages(([("mix", 6), ("dial", 0)], 6), dial) for dial in (0, 2, 3, 6)]
[[0, 1], [], [0], [0, 1]]
'''

DIALS = '''
>>> from imagetones.dials import count_dials, last_dial, next_dial
>>> passed, plain = ([("dial", 0), ("pass", 3, 6), ("mix", 4)], None), ([("dial", 0)], 4)
>>> [next_dial(passed, 10, (0, 0), dial) for dial in (0, 6, 7, 15)]
[6, 6, 14, None]
>>> [last_dial(passed, 10, (1, 2), 100), last_dial(passed, 10, (0, 9), 3), count_dials(passed, 10, (0, 1), -100, 100)]
[16, None, 6]
>>> [next_dial(plain, 10, (2, 2), 1), last_dial(plain, 10, (2, 2), -1), count_dials(plain, 10, (2, 2), -10 ** 30, 10 ** 30)]
[4, -4, 500000000000000000000000000001]
'''

CLASHES = '''
>>> from imagetones.clashes import count_clashes, next_clash
>>> passed, plain, odd = ([("dial", 0), ("pass", 3, 6), ("mix", 4)], None), ([("dial", 0)], 4), ([("dial", 0)], 5)
>>> [next_clash(passed, 10, 12, dial) for dial in (0, 8, 16)], count_clashes(passed, 10, 12, -100, 100)
([7, 15, None], 2)
>>> [next_clash(passed, 10, 10, 0), count_clashes(passed, 10, 10, -100, 100)]
[4, 8]
>>> [next_clash(plain, 10, 13, 0), next_clash(plain, 10, 12, 0), count_clashes(plain, 10, 12, -10 ** 30, 10 ** 30), next_clash(odd, 10, 13, 0)]
[None, 1, 1000000000000000000000000000000, 4]
'''

SCANS = '''
>>> from imagetones.scans import count_stops, first_stop, heard_there
>>> receiver, signals = ([("dial", 0), ("pass", 3, 6), ("mix", 4)], None), [10, 12]
>>> [first_stop(receiver, signals, (0, 0), dial, step) for dial, step in [(0, 1), (0, 4), (20, -1), (1, 10)]]
[6, 2, 4, None]
>>> [count_stops(receiver, signals, (0, 1), 0, step, many) for step, many in [(1, 20), (1, 7), (2, 10), (1, 0)]]
[10, 2, 4, 0]
>>> heard_there(receiver, [12, 30, 10], (0, 1), 7)
[0, 2]

>>> from imagetones.scans import count_stops, first_stop
>>> receiver = ([("dial", 0)], 7)
>>> [first_stop(receiver, [0], (0, 0), 1, step) for step in (3, 10 ** 20)], count_stops(receiver, [0], (0, 1), 0, 1, 10 ** 30)
([2, 3], 428571428571428571428571428572)
'''

LOOKS = '''
>>> from imagetones.looks import count_fits, next_fit, nth_fit
>>> passed, plain = ([("dial", 0), ("pass", 3, 6), ("mix", 4)], None), ([("dial", 0)], 4)
>>> [next_fit(passed, [(10, 0, 0)], signal) for signal in (0, 7, 15)], count_fits(passed, [(10, 0, 0)], 100)
([6, 14, None], 2)
>>> [nth_fit(passed, [(10, None, None), (12, 0, 2)], index) for index in range(5)]
[8, 9, 17, 18, None]
>>> looks = [(0, 1, 1), (1, 0, 0)]
>>> [next_fit(plain, looks, 2), count_fits(plain, looks, 10 ** 30), nth_fit(plain, looks, 10 ** 29)]
[5, 250000000000000000000000000000, 400000000000000000000000000001]

>>> from imagetones.looks import clashing_looks
>>> passed, plain = ([("dial", 0), ("pass", 3, 6), ("mix", 4)], None), ([("dial", 0)], 4)
>>> [clashing_looks(passed, looks) for looks in ([(10, 0, 0)], [(10, 0, 0), (12, 0, 0)], [(10, 0, 0), (10, 7, 9)])]
[None, [0, 1], [1]]
>>> clashing_looks(plain, [(0, 1, 1), (1, 0, 0), (3, 0, 0)])
[1, 2]
'''

PARTING = '''
>>> from imagetones.parting import parting_dial, parting_way
>>> receiver = ([("dial", 0), ("pass", 3, 6), ("mix", 4)], None)
>>> [parting_dial(receiver, 10, 12, dial) for dial in (0, 7, 10, 19)]
[4, 8, 13, None]
>>> [parting_way(receiver, 10, 12, dial) for dial in (0, 7, 11, 19, 5)]
[4, 1, 2, 1, 0]
>>> [parting_dial(([("dial", 0)], 4), 1, other, -100) for other in (1, 4, 5)]
[None, -100, None]
'''

LIVE = '''
>>> from imagetones.live import LiveScanner
>>> scanner = LiveScanner(([("dial", 0), ("pass", 3, 6), ("mix", 4)], None))
>>> [scanner.dial, scanner.step, scanner.stations, scanner.tones, scanner.log, len(scanner)]
[0, 1, [], [], [], 0]
>>> [scanner.switch(12), scanner.switch(10), scanner.tune(5), scanner.stations, scanner.tones]
[None, None, None, [10, 12], [1, None]]
>>> [scanner.seek((0, 0)), scanner.dial, scanner.tones, scanner.go(2), scanner.dial, scanner.tones]
[None, 6, [0, 2], None, 8, [None, 0]]
>>> [scanner.set_step(-3), scanner.seek((0, 2)), scanner.dial, scanner.undo(), scanner.dial, len(scanner)]
[None, None, 5, None, 8, 6]
>>> other = scanner.fork()
>>> [other == scanner, other.switch(10), other.stations, scanner.stations, other == scanner]
[True, None, [12], [10, 12], False]
>>> scanner.log
[('switch', 12), ('switch', 10), ('tune', 5), ('seek', (0, 0)), ('go', 2), ('step', -3)]

>>> from imagetones.live import LiveScanner
>>> LiveScanner(([("mix", 5)], None))
raises Impossible

>>> from imagetones.live import LiveScanner
>>> LiveScanner(([("dial", 0)], None)).seek((0, 5))
raises Impossible
'''

TEXTS = '''
>>> from imagetones.texts import format_looks, format_receiver
>>> format_receiver(([("mix", 5), ("dial", -3), ("pass", 2, 9)], 4)), format_receiver(([("dial", 0)], None))
('m5 d-3 p2..9 /4', 'd0')
>>> format_looks([(10, 3, 6), (-4, None, None)])
'10=3..6 -4=-'

>>> from imagetones.texts import parse_looks, parse_receiver
>>> parse_receiver("m5 d-3 p2..9 /4"), parse_looks("10=3..6 -4=-")
(([('mix', 5), ('dial', -3), ('pass', 2, 9)], 4), [(10, 3, 6), (-4, None, None)])
>>> parse_receiver("m5 d-3 p9..2")
raises InvalidSyntax(word=2)
>>> parse_receiver("/4")
raises InvalidSyntax(word=0)
>>> parse_looks("10=3..6 4")
raises InvalidSyntax(word=1)
'''

CONSOLE = '''
>>> from imagetones.console import Console
>>> console = Console()
>>> [console.execute(command) for command in ["tones", "receiver d0 p3..6 m4", "switch 10", "switch 12", "tune 7", "tones", "stations"]]
['none', 'ok', 'ok', 'ok', 'ok', '1 1', '10 12']
>>> [console.execute(command) for command in ["seek 0 0", "dial", "tones", "undo", "dial"]]
['ok', '8', '- 0', 'ok', '7']
>>> [console.execute(command) for command in ["tone 3", "tone 0", "slopes 20", "next 0 0 4", "images 3 20", "unlike d0 p3..6", "trimmed"]]
['0', '-', '4', '11', '2', '1', 'd0 p3..6 m4']

>>> from imagetones.console import Console
>>> Console().execute("receiver m5")
raises Impossible

>>> from imagetones.console import Console
>>> Console().execute("tune x")
raises InvalidCommand
'''


def told_error(error):
    """An error as the document tells it: its name, and its fields in brackets."""
    fields = ", ".join(f"{name}={value!r}" for name, value in vars(error).items())
    return type(error).__name__ + (f"({fields})" if fields else "")


def answer_of(line, names):
    """What the document tells below a line: nothing for a statement, `raises` .. for an error."""
    try:
        code = compile(line, "example", "eval")
    except SyntaxError:
        exec(line, names)
        return ""
    try:
        return repr(eval(code, names))
    except errors.ToneError as error:
        return "raises " + told_error(error)


def examples_of(text):
    """Pairs of a line and the answer below it; an empty line begins anew and stands as None."""
    pairs = []
    for line in text.strip().split("\n"):
        if line.startswith(">>> "):
            pairs.append((line[4:], ""))
        elif not line:
            pairs.append((None, ""))
        else:
            pairs[-1] = (pairs[-1][0], line)
    return pairs


class Examples(unittest.TestCase):
    def carry_out(self, text):
        names = {}
        for line, answer in examples_of(text):
            if line is None:
                names = {}
            else:
                with self.subTest(line):
                    self.assertEqual(answer_of(line, names), answer)

    def test_definitions(self):
        self.carry_out(DEFINITIONS)

    def test_receivers(self):
        self.carry_out(RECEIVERS)

    def test_slopes(self):
        self.carry_out(SLOPES)

    def test_heard_signals(self):
        self.carry_out(HEARD)

    def test_images(self):
        self.carry_out(IMAGES)

    def test_two_receivers(self):
        self.carry_out(ALIKE)

    def test_dials(self):
        self.carry_out(DIALS)

    def test_clashes(self):
        self.carry_out(CLASHES)

    def test_scans(self):
        self.carry_out(SCANS)

    def test_told_back(self):
        self.carry_out(LOOKS)

    def test_two_signals(self):
        self.carry_out(PARTING)

    def test_a_live_scanner(self):
        self.carry_out(LIVE)

    def test_texts(self):
        self.carry_out(TEXTS)

    def test_a_console(self):
        self.carry_out(CONSOLE)

    def test_the_runner_sees_wrong_answers(self):
        pairs = examples_of(">>> 1 + 1\n3\n\n>>> x = 4\n>>> x\n4\n")
        self.assertEqual(pairs, [("1 + 1", "3"), (None, ""), ("x = 4", ""), ("x", "4")])
        self.assertEqual(answer_of("1 + 1", {}), "2")
        self.assertEqual(told_error(errors.InvalidReceiver(1)), "InvalidReceiver(index=1)")
        self.assertEqual(told_error(errors.Impossible("why")), "Impossible")


if __name__ == "__main__":
    unittest.main()
