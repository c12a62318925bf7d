"""A console: a live scanner that is told commands in words, and answers in words."""

from imagetones.alike import first_unlike, trimmed_receiver
from imagetones.errors import InvalidCommand, InvalidSyntax
from imagetones.heard import next_heard
from imagetones.images import image_count
from imagetones.live import LiveScanner
from imagetones.receivers import tone_at
from imagetones.slopes import count_slopes
from imagetones.texts import format_receiver, parse_receiver
from imagetones.words import read_natural, read_number

# For each command with numbers or without words: of each number whether it may be below 0.
CALLS = {"tune": (True,), "step": (True,), "go": (False,), "switch": (False,), "seek": (False, False), "undo": ()}
QUESTIONS = {"dial": (), "stations": (), "tones": (), "tone": (False,), "slopes": (False,),
             "next": (False, False, False), "images": (False, False), "trimmed": ()}


class Console:
    """A live scanner that carries out commands."""

    def __init__(self):
        self._receiver = ([("dial", 0)], None)
        self._scanner = LiveScanner(self._receiver)

    def execute(self, command):
        """Carry out a command, and return its answer."""
        if not isinstance(command, str):
            raise InvalidCommand("a command is a string")
        name, *words = command.split(" ")
        if name == "receiver":
            receiver = _read_receiver(words)
            self._scanner = LiveScanner(receiver)
            self._receiver = receiver
            return "ok"
        if name == "unlike":
            other = _read_receiver(words)
            return _number_word(first_unlike(self._receiver, other, self._scanner.dial))
        if name in CALLS:
            self._call(name, _read_numbers(words, CALLS[name]))
            return "ok"
        if name in QUESTIONS:
            return self._answer(name, _read_numbers(words, QUESTIONS[name]))
        raise InvalidCommand("there is no such command")

    def _call(self, name, numbers):
        scanner = self._scanner
        if name == "tune":
            scanner.tune(numbers[0])
        elif name == "step":
            scanner.set_step(numbers[0])
        elif name == "go":
            scanner.go(numbers[0])
        elif name == "switch":
            scanner.switch(numbers[0])
        elif name == "seek":
            scanner.seek((numbers[0], numbers[1]))
        else:
            scanner.undo()

    def _answer(self, name, numbers):
        receiver, scanner = self._receiver, self._scanner
        dial = scanner.dial
        if name == "dial":
            return str(dial)
        if name == "stations":
            return _words_of_tones(scanner.stations)
        if name == "tones":
            return _words_of_tones(scanner.tones)
        if name == "tone":
            return _tone_word(tone_at(receiver, dial, numbers[0]))
        if name == "slopes":
            return str(count_slopes(receiver, dial, numbers[0]))
        if name == "next":
            return _number_word(next_heard(receiver, dial, (numbers[0], numbers[1]), numbers[2]))
        if name == "images":
            return str(image_count(receiver, dial, numbers[0], numbers[1]))
        return format_receiver(trimmed_receiver(receiver, dial))


def _read_receiver(words):
    try:
        return parse_receiver(" ".join(words))
    except InvalidSyntax:
        raise InvalidCommand("these are no words of a receiver") from None


def _read_numbers(words, signs):
    """The numbers of a command; of each one `signs` tells whether it may be below 0."""
    if len(words) != len(signs):
        raise InvalidCommand("this command has another number of words")
    numbers = [read_number(word) if may_be_below else read_natural(word) for word, may_be_below in zip(words, signs)]
    if None in numbers:
        raise InvalidCommand("a word of this command is no such number")
    return numbers


def _number_word(number):
    return "none" if number is None else str(number)


def _tone_word(tone):
    return "-" if tone is None else str(tone)


def _words_of_tones(tones):
    return " ".join([_tone_word(tone) for tone in tones]) if tones else "none"
