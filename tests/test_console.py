"""[26], [27]: the console, against the scanner and the functions that its commands name."""

import random
import unittest

from imagetones.alike import first_unlike, trimmed_receiver
from imagetones.console import Console
from imagetones.errors import (Impossible, InvalidBand, InvalidCommand, InvalidNumber, NothingToUndo, ToneError)
from imagetones.heard import next_heard
from imagetones.images import image_count
from imagetones.live import LiveScanner
from imagetones.receivers import tone_at
from imagetones.slopes import count_slopes
from imagetones.texts import format_receiver, parse_receiver
from plain import BIG, small_receivers, with_dial
from wrong import Strange

NINES = "9" * 30
STATE = ["dial", "stations", "tones", "trimmed"]
ANSWERS = {"receiver": [""], "tune": ["D"], "step": ["D"], "go": ["N"], "switch": ["N"], "seek": ["N", "N"], "undo": [],
           "dial": [], "stations": [], "tones": [], "tone": ["N"], "slopes": ["N"], "next": ["N", "N", "N"],
           "images": ["N", "N"], "trimmed": []}


def carried_out(*commands):
    """A console that has carried out some commands."""
    console = Console()
    for command in commands:
        console.execute(command)
    return console


def answer(console, command):
    """The answer to a command, or the name of its error."""
    try:
        return console.execute(command)
    except ToneError as error:
        return type(error).__name__


def state_of(console):
    """All that tells the state of a console without changing it."""
    return [console.execute(command) for command in STATE]


def told(value):
    return "none" if value is None else str(value)


def tone_words(tones):
    return " ".join("-" if tone is None else str(tone) for tone in tones) or "none"


class Model:
    """What a console answers, by a scanner and the functions of the package."""

    def __init__(self):
        self.begin(([("dial", 0)], None))

    def begin(self, receiver):
        self.scanner = LiveScanner(receiver)
        self.receiver = receiver

    def answer(self, name, values):
        scanner, receiver = self.scanner, self.receiver
        calls = {"receiver": self.begin, "tune": scanner.tune, "step": scanner.set_step, "go": scanner.go,
                 "switch": scanner.switch, "undo": scanner.undo, "seek": lambda *band: scanner.seek(band)}
        if name in calls:
            calls[name](*values)
            return "ok"
        dial = scanner.dial
        answers = {
            "dial": lambda: str(dial), "stations": lambda: tone_words(scanner.stations),
            "tones": lambda: tone_words(scanner.tones),
            "tone": lambda signal: tone_words([tone_at(receiver, dial, signal)]),
            "slopes": lambda far: str(count_slopes(receiver, dial, far)),
            "next": lambda least, greatest, signal: told(next_heard(receiver, dial, (least, greatest), signal)),
            "images": lambda signal, far: str(image_count(receiver, dial, signal, far)),
            "unlike": lambda other: told(first_unlike(receiver, other, dial)),
            "trimmed": lambda: format_receiver(trimmed_receiver(receiver, dial)),
        }
        return answers[name](*values)


class Small(unittest.TestCase):
    def some_command(self, source, receivers):
        name = source.choice(["receiver", "unlike", "switch", "switch", "seek", "next"] + list(ANSWERS)[1:])
        if name in ("receiver", "unlike"):
            values = [source.choice(receivers)]
            return name, values, f"{name} {format_receiver(values[0])}"
        values = [source.randint(-9, 20) if kind == "D" else source.randint(0, 9) for kind in ANSWERS[name]]
        return name, values, " ".join([name] + [str(value) for value in values])

    def test_many_commands(self):
        source = random.Random(231)
        receivers = [with_dial(source, receiver) if source.random() < 0.8 else receiver
                     for receiver, _ in small_receivers(232, 60)]
        seen = {}
        for _ in range(60):
            console, model = Console(), Model()
            for _ in range(40):
                name, values, command = self.some_command(source, receivers)
                before = state_of(console)
                try:
                    right = model.answer(name, values)
                except ToneError as error:
                    right = type(error).__name__
                    self.assertEqual(answer(console, command), right, command)
                    self.assertEqual(state_of(console), before)
                else:
                    self.assertEqual(answer(console, command), right, command)
                seen.setdefault(name, set()).add(right)
                self.assertEqual(state_of(console), [model.answer(asked, []) for asked in STATE])
        self.assertEqual({name for name, answers in seen.items() if len(answers) > 1},
                         (set(ANSWERS) | {"unlike"}) - {"tune"})


class Named(unittest.TestCase):
    """Cases that the document and its edges name."""

    def test_the_first_scanner(self):
        self.assertEqual(state_of(Console()), ["0", "none", "none", "d0"])
        self.assertEqual([answer(Console(), command) for command in ["undo", "tone 7", "slopes 9", "next 3 4 0"]],
                         ["NothingToUndo", "7", "1", "3"])

    def test_each_command(self):
        console = Console()
        for command, right in [
                ("receiver d0 p3..6 m4 m0", "ok"), ("tune -4", "ok"), ("dial", "-4"), ("step 3", "ok"), ("go 2", "ok"),
                ("dial", "2"), ("step -1", "ok"), ("go 1", "ok"), ("dial", "1"), ("switch 12", "ok"),
                ("switch 6", "ok"), ("stations", "6 12"), ("tones", "1 -"), ("step 1", "ok"), ("seek 0 0", "ok"),
                ("dial", "2"), ("tones", "0 -"), ("undo", "ok"), ("dial", "1"), ("switch 6", "ok"), ("stations", "12"),
                ("tones", "-"), ("tone 6", "1"), ("tone 3", "-"), ("slopes 9", "2"), ("next 0 0 0", "5"),
                ("next 0 0 6", "none"), ("images 4 9", "2"), ("unlike d0 p3..6 m4 m1", "4"),
                ("unlike d0 p3..6 m4", "none"), ("trimmed", "d0 p3..6 m4"), ("undo", "ok"), ("stations", "6 12")]:
            self.assertEqual(console.execute(command), right, command)

    def test_none_and_silence(self):
        console = carried_out("receiver d0 p3..6")
        for command in ("stations", "tones", "next 7 9 0", "unlike d0 p3..6"):
            self.assertEqual(console.execute(command), "none")
        console.execute("switch 5")
        self.assertEqual([console.execute(command) for command in ["tones", "tone 5", "tone 9", "tone 0"]],
                         ["5", "5", "-", "-"])
        for command in ("switch 9", "switch 4"):
            console.execute(command)
        self.assertEqual([console.execute("stations"), console.execute("tones")], ["4 5 9", "4 5 -"])
        for command in ("switch 9", "switch 4", "switch 5"):
            console.execute(command)
        self.assertEqual([console.execute("stations"), console.execute("tones")], ["none", "none"])

    def test_a_new_receiver_begins_anew(self):
        console = carried_out("switch 5", "tune 7", "step 3")
        self.assertEqual(console.execute("receiver m2 d1 /6"), "ok")
        self.assertEqual(state_of(console), ["0", "none", "none", "m2 d1 /6"])
        self.assertEqual(answer(console, "undo"), "NothingToUndo")
        console.execute("go 1")
        self.assertEqual(console.execute("dial"), "1")

    def test_a_receiver_without_a_dial_stage(self):
        console = carried_out("switch 5", "tune 7")
        before = state_of(console)
        for command in ("receiver m5", "receiver p0..9 m3 /4"):
            self.assertRaises(Impossible, console.execute, command)
            self.assertEqual(state_of(console), before)
        self.assertEqual(console.execute("unlike m7"), "none")
        self.assertEqual(console.execute("undo"), "ok")
        self.assertEqual(console.execute("dial"), "0")

    def test_errors_of_the_calls_and_functions(self):
        console = carried_out("receiver d0 p3..6", "switch 10", "tune 7")
        before = state_of(console)
        for command, error in [("images 9 9", Impossible), ("step 0", InvalidNumber), ("go 0", InvalidNumber),
                               ("seek 5 4", InvalidBand), ("next 5 4 0", InvalidBand), ("seek 7 9", Impossible)]:
            self.assertRaises(error, console.execute, command)
            self.assertEqual(state_of(console), before)
        for signal in (1, 2, 3):
            console.execute(f"switch {signal}")
        self.assertRaises(InvalidNumber, console.execute, "switch 4")
        self.assertEqual(console.execute("stations"), "1 2 3 10")
        # No command that raised an error can be taken back: the five that did not can.
        self.assertEqual([answer(console, "undo") for _ in range(6)], ["ok"] * 5 + ["NothingToUndo"])
        self.assertRaises(NothingToUndo, console.execute, "undo")

    def test_consoles_go_their_own_ways(self):
        one, other = Console(), Console()
        one.execute("tune 5")
        self.assertEqual([one.execute("dial"), other.execute("dial")], ["5", "0"])

    def test_great_numbers(self):
        console = carried_out(f"receiver m{NINES} d-{NINES} p0..{NINES} /{NINES}")
        self.assertEqual(console.execute("trimmed"), f"m{NINES} d-{NINES} p0..{NINES} /{NINES}")
        for command in (f"tune -{NINES}", f"step {NINES}", f"go {NINES}"):
            self.assertEqual(console.execute(command), "ok")
        dial = int(NINES) * (int(NINES) - 1)
        self.assertEqual(console.execute("dial"), str(dial))
        console.execute(f"tune {NINES}")
        self.assertEqual(console.execute(f"tone {NINES}"), "0")
        self.assertEqual(console.execute(f"slopes {NINES}"), told(count_slopes(
            parse_receiver(f"m{NINES} d-{NINES} p0..{NINES} /{NINES}"), int(NINES), int(NINES))))
        self.assertGreater(dial, BIG)


class Wrong(unittest.TestCase):
    def assert_wrong(self, command):
        console = carried_out("receiver d0 p3..6", "switch 10", "tune 7", "step -2")
        before = state_of(console)
        self.assertRaises(InvalidCommand, console.execute, command)
        self.assertEqual(state_of(console), before)
        self.assertEqual([answer(console, "undo") for _ in range(4)], ["ok"] * 3 + ["NothingToUndo"])

    def test_no_strings(self):
        for value in [None, True, 0, 5, 1.0, b"dial", ["dial"], ("dial",), [], (), {}, {"dial": 1}, Strange()]:
            self.assert_wrong(value)

    def test_no_commands(self):
        for command in ["", " ", "x", "Dial", "DIAL", "dials", "log", "fork", "set_step 1", "len", "5", "d0", "ok",
                        "none", "dial\n", "\ndial", "tune\n5", "tune,5", "tune=5", "tune(5)"]:
            self.assert_wrong(command)

    def test_words_too_many_and_too_few(self):
        for name, kinds in ANSWERS.items():
            if name != "receiver":
                for many in range(6):
                    if many != len(kinds):
                        self.assert_wrong(" ".join([name] + ["5"] * many))
        for command in ("receiver", "unlike", "receiver ", "unlike "):
            self.assert_wrong(command)

    def test_empty_words(self):
        right = ["receiver d0 /4", "tune 5", "step 5", "go 5", "switch 5", "seek 0 9", "undo", "dial", "stations",
                 "tones", "tone 5", "slopes 5", "next 0 9 5", "images 5 9", "unlike d0 /4", "trimmed"]
        for command in right:
            for wrong in (" " + command, command + " ", command.replace(" ", "  ")):
                if wrong != command:
                    self.assert_wrong(wrong)

    def test_wrong_numbers(self):
        for number in ["x", "-0", "00", "05", "-05", "+5", "5.0", "--5", "-", "9" * 31, "-" + "9" * 31, "5\n", "1_0"]:
            for name, kinds in ANSWERS.items():
                if name != "receiver":
                    for place in range(len(kinds)):
                        words = ["5"] * len(kinds)
                        words[place] = number
                        self.assert_wrong(" ".join([name] + words))

    def test_numbers_below_0(self):
        for name, kinds in ANSWERS.items():
            for place, kind in enumerate(kinds):
                if kind == "N":
                    words = ["5"] * len(kinds)
                    words[place] = "-5"
                    self.assert_wrong(" ".join([name] + words))
        self.assertEqual([carried_out("tune -5").execute("dial"), carried_out("step -5", "go 1").execute("dial")],
                         ["-5", "-5"])

    def test_wrong_receivers(self):
        for words in ["/4", "m-5", "x", "m5 /1", "d0 d1", "d0 /4 m5", "p9..2", "m5 " * 8 + "m5", "d0  m5",
                      "m" + "9" * 31]:
            for name in ("receiver", "unlike"):
                self.assert_wrong(f"{name} {words}")

    def test_the_form_counts_first(self):
        # These have another error of their own, but no right form.
        for command in ("receiver m5 x", "step 0 0", "seek 5 4 3", "images 9 9 x", "seek 5 -4", "unlike m5 d0 d0"):
            self.assert_wrong(command)
        self.assertEqual(answer(Console(), "undo 1"), "InvalidCommand")

    def test_by_position_and_by_name(self):
        self.assertEqual(Console().execute(command="dial"), "0")
        self.assertEqual(Console().execute("dial"), "0")


if __name__ == "__main__":
    unittest.main()
