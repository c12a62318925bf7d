"""[24], [25]: texts of receivers and looks."""

import copy
import random
import re
import unittest

from imagetones.errors import InvalidSyntax
from imagetones.looks import count_fits
from imagetones.receivers import is_receiver
from imagetones.texts import format_looks, format_receiver, parse_looks, parse_receiver
from plain import BIG, great_receivers, small_receivers, with_dial
from wrong import Strange

NINES = "9" * 30
NATURAL = r"(?:0|[1-9][0-9]{0,29})"
INTEGER = rf"(?:{NATURAL}|-[1-9][0-9]{{0,29}})"
NO_TEXTS = [None, True, 0, 5, 1.0, b"m5", ["m5"], ("m5",), [], (), {}, {"m5": 1}, Strange()]
WRONG_NUMBERS = ["", "-", "-0", "00", "01", "-01", "007", "+1", "1.0", "1e3", "1_0", " 1", "1\n", "x", "0x1", "--1",
                 "1-", "9" * 31, "1" + "0" * 30, "-" + "1" * 31, "1,0", "!", "~", "٣", "²"]


def reads(call, text):
    """What a call reads; the word that it says is wrong, in a list."""
    try:
        return call(text)
    except InvalidSyntax as error:
        return ["wrong", error.word]


def plain_wrong_word(text, is_receiver_text):
    """The index of the first word that cannot stand in a text, None without one, by patterns."""
    words = text.split(" ")
    for index, word in enumerate(words):
        ahead = words[:index]
        band = re.fullmatch(rf"(?:p|{INTEGER}=)({NATURAL})\.\.({NATURAL})", word)
        is_band = band is not None and int(band[1]) <= int(band[2])
        if is_receiver_text:
            is_stage = bool(re.fullmatch(rf"m{NATURAL}|d{INTEGER}", word)) or (is_band and word.startswith("p"))
            right = is_stage and len(ahead) < 8 and not (word[0] == "d" and any(one[0] == "d" for one in ahead))
            rate = re.fullmatch(rf"/({NATURAL})", word)
            right = right or (bool(ahead) and rate is not None and int(rate[1]) >= 2)
            right = right and not any(one.startswith("/") for one in ahead)
        else:
            right = bool(re.fullmatch(rf"{INTEGER}=-", word)) or (is_band and not word.startswith("p"))
            right = right and index < 6
        if not right:
            return index
    return None


class Formats(unittest.TestCase):
    def test_receivers(self):
        for receiver, text in [
                (([("mix", 0)], None), "m0"), (([("dial", -5)], 2), "d-5 /2"), (([("pass", 0, 0)], None), "p0..0"),
                (([("mix", 5)] * 8, 10 ** 29), "m5 m5 m5 m5 m5 m5 m5 m5 /1" + "0" * 29),
                (([("mix", 10 ** 39), ("dial", -10 ** 39)], 10 ** 38), f"m{10 ** 39} d-{10 ** 39} /{10 ** 38}")]:
            self.assertEqual(format_receiver(receiver), text)

    def test_looks(self):
        for looks, text in [([(0, 0, 0)], "0=0..0"), ([(-7, None, None)], "-7=-"),
                            ([(5, 1, 2)] * 6, "5=1..2 5=1..2 5=1..2 5=1..2 5=1..2 5=1..2"),
                            ([(-10 ** 39, 5, 10 ** 39), (0, None, None)], f"-{10 ** 39}=5..{10 ** 39} 0=-")]:
            self.assertEqual(format_looks(looks), text)

    def test_arguments_stay_as_they_were(self):
        receiver, looks = ([("mix", 5), ("dial", -3)], 4), [(1, 2, 3), (4, None, None)]
        before = copy.deepcopy((receiver, looks))
        format_receiver(receiver), format_looks(looks)
        self.assertEqual((receiver, looks), before)


class Reads(unittest.TestCase):
    """That a text is read back as the same value, and written again as the same text."""

    def assert_receiver(self, receiver):
        text = format_receiver(receiver)
        told = parse_receiver(text)
        self.assertEqual(told, receiver)
        self.assertTrue(is_receiver(told))
        self.assertEqual([type(told), type(told[0])] + [type(stage) for stage in told[0]],
                         [tuple, list] + [tuple] * len(told[0]))
        self.assertEqual(format_receiver(told), text)

    def test_receivers(self):
        source = random.Random(221)
        for receiver, _ in small_receivers(222, 300):
            self.assert_receiver(receiver)
            self.assert_receiver(with_dial(source, receiver))

    def test_great_receivers(self):
        for (stages, rate), _ in great_receivers(223, 200, (None, 2, 10 ** 29, 10 ** 30 - 1)):
            small = [stage[:1] + tuple(sorted(abs(part) % 10 ** 30 for part in stage[1:])) for stage in stages]
            self.assert_receiver((small, rate))

    def test_looks(self):
        source = random.Random(224)
        for _ in range(300):
            looks = []
            for _ in range(source.randint(1, 6)):
                size = 10 ** source.choice([1, 2, 30])
                band = sorted([source.randrange(size), source.randrange(size)])
                look = (None, None) if source.random() < 0.3 else tuple(band)
                looks.append((source.randint(-size + 1, size - 1),) + look)
            text = format_looks(looks)
            told = parse_looks(text)
            self.assertEqual(told, looks)
            self.assertEqual(format_looks(told), text)
            self.assertEqual([type(told)] + [type(look) for look in told], [list] + [tuple] * len(told))
            self.assertIsInstance(count_fits(([("dial", 0)], 4), told, 9), int)

    def test_thirty_digits(self):
        self.assertEqual(parse_receiver(f"m{NINES} d-{NINES} p{NINES}..{NINES} /{NINES}"),
                         ([("mix", int(NINES)), ("dial", -int(NINES)), ("pass", int(NINES), int(NINES))], int(NINES)))
        self.assertEqual(parse_receiver(f"d{NINES}"), ([("dial", int(NINES))], None))
        self.assertEqual(parse_looks(f"-{NINES}={NINES}..{NINES} {NINES}=-"),
                         [(-int(NINES), int(NINES), int(NINES)), (int(NINES), None, None)])

    def test_the_least_numbers(self):
        self.assertEqual(parse_receiver("m0 d0 p0..0 /2"), ([("mix", 0), ("dial", 0), ("pass", 0, 0)], 2))
        self.assertEqual(parse_looks("0=0..0 -1=-"), [(0, 0, 0), (-1, None, None)])

    def test_the_most_words(self):
        self.assertEqual(parse_receiver("m1 m2 m3 m4 m5 m6 m7 d8 /9"),
                         ([("mix", lo) for lo in range(1, 8)] + [("dial", 8)], 9))
        self.assertEqual(parse_looks("1=- 2=- 3=- 4=- 5=- 6=-"), [(dial, None, None) for dial in range(1, 7)])

    def test_returned_lists_are_new(self):
        for call, text in [(parse_receiver, "m5 d-3"), (parse_looks, "1=- 2=-")]:
            told = call(text)
            (told[0] if isinstance(told, tuple) else told).append(9)
            self.assertNotEqual(call(text), told)
        self.assertIsNot(parse_receiver("m5")[0], parse_receiver("m5")[0])
        self.assertIsNot(parse_looks("1=-"), parse_looks("1=-"))

    def test_by_position_and_by_name(self):
        self.assertEqual(parse_receiver(text="m5 /4"), ([("mix", 5)], 4))
        self.assertEqual(parse_looks(text="5=-"), [(5, None, None)])
        self.assertEqual(format_receiver(receiver=([("mix", 5)], 4)), "m5 /4")
        self.assertEqual(format_looks(looks=[(5, None, None)]), "5=-")


class Wrong(unittest.TestCase):
    def assert_wrong(self, call, text, word):
        self.assertEqual(reads(call, text), ["wrong", word], text)

    def test_no_strings(self):
        for value in NO_TEXTS:
            self.assert_wrong(parse_receiver, value, None)
            self.assert_wrong(parse_looks, value, None)

    def test_empty_words(self):
        for call, word in [(parse_receiver, "m5"), (parse_looks, "5=-")]:
            for text, index in [("", 0), (" ", 0), ("  ", 0), (f" {word}", 0), (f"{word} ", 1), (f"{word}  {word}", 1),
                                (f"{word} {word}  ", 2)]:
                self.assert_wrong(call, text, index)

    def test_wrong_numbers(self):
        for number in WRONG_NUMBERS:
            for text in (f"m{number}", f"d{number}", f"p{number}..{NINES}", f"p0..{number}", f"p{number}..{number}"):
                self.assert_wrong(parse_receiver, text, 0)
            if " " not in number:
                self.assert_wrong(parse_receiver, f"m5 /{number}", 1)
                for text in (f"{number}=-", f"{number}=0..1", f"5={number}..{NINES}", f"5=0..{number}"):
                    self.assert_wrong(parse_looks, text, 0)

    def test_numbers_below_0(self):
        for text in ("m-5", "p-1..5", "p-5..-1", "p0..-1"):
            self.assert_wrong(parse_receiver, text, 0)
            self.assert_wrong(parse_receiver, f"d-3 {text}", 1)
        for text in ("m5 /-4", "m5 /-0"):
            self.assert_wrong(parse_receiver, text, 1)
        for text in ("5=-1..2", "5=-2..-1", "5=0..-1"):
            self.assert_wrong(parse_looks, text, 0)
            self.assert_wrong(parse_looks, f"-5=- {text}", 1)

    def test_bands_turned_about(self):
        self.assert_wrong(parse_receiver, "m5 p9..8", 1)
        self.assert_wrong(parse_looks, "5=- 6=8..9 5=9..8", 2)
        self.assertEqual(parse_receiver("p9..9 p9..10")[0], [("pass", 9, 9), ("pass", 9, 10)])

    def test_too_many_words(self):
        for last in ("m9", "d9", "p0..9"):
            self.assert_wrong(parse_receiver, "m1 m2 m3 m4 m5 m6 m7 m8 " + last, 8)
            self.assert_wrong(parse_receiver, "m1 m2 m3 m4 m5 m6 m7 m8 " + last + " /4", 8)
        self.assert_wrong(parse_looks, "1=- 2=- 3=- 4=- 5=- 6=- 7=-", 6)
        self.assert_wrong(parse_looks, " ".join(["1=0..5"] * 9), 6)

    def test_a_second_dial(self):
        self.assert_wrong(parse_receiver, "d1 d1", 1)
        self.assert_wrong(parse_receiver, "m1 d1 p0..9 d-2 /4", 3)

    def test_rates(self):
        self.assert_wrong(parse_receiver, "/4", 0)
        self.assert_wrong(parse_receiver, "/4 m5", 0)
        for rate in ("/0", "/1", "/", "//4", "/4/", "/x", "4"):
            self.assert_wrong(parse_receiver, "m5 " + rate, 1)
        for behind in ("m5", "/4", "d0", "", "x"):
            self.assert_wrong(parse_receiver, "m5 /4 " + behind, 2)

    def test_words_of_no_form(self):
        for word in ("x", "5", "m", "d", "p", "M5", "mm5", "m5d3", "p5", "p..", "p5..", "p..5", "p1.5", "p1...5",
                     "p1..2..3", "q1..2", "a0", "=", "5=-", "m5\n", "\nm5", "m 5"):
            self.assert_wrong(parse_receiver, "m5 " + word, 1)
        for word in ("5", "=", "=-", "5=", "5=--", "5=..", "5=1", "5=1..", "5=..1", "5=1...2", "5==-", "5=5=-", "m5",
                     "5=-\n", "5=-0", "5=1..2..3", "5-", "x=-", "5=p1..2"):
            self.assert_wrong(parse_looks, "5=- " + word, 1)

    def test_the_first_wrong_word_counts(self):
        self.assert_wrong(parse_receiver, "m5 x d1 y", 1)
        self.assert_wrong(parse_receiver, "m-5 d1 d1 /1", 0)
        self.assert_wrong(parse_receiver, "m5 /4 m5 /4 d01", 2)
        self.assert_wrong(parse_looks, "5=- 5=2..1 5 1=-", 1)

    def assert_any(self, text, is_receiver_text):
        """That a text is read as the patterns say: written again as it was, or wrong at a word."""
        told = reads(parse_receiver if is_receiver_text else parse_looks, text)
        index = plain_wrong_word(text, is_receiver_text)
        if index is None:
            self.assertEqual((format_receiver if is_receiver_text else format_looks)(told), text)
        else:
            self.assertEqual(told, ["wrong", index], text)

    def test_any_words(self):
        source = random.Random(225)
        pools = {
            True: ["m5", "m0", "d-3", "d4", "p2..9", "p0..0", "/4", "/2", "/1", "m-5", "p9..2", "", "x", "d-0", "m01"],
            False: ["5=-", "-4=-", "0=1..2", "7=0..0", "5=2..1", "", "5", "-0=-", "5=01..2", "x=-"]}
        for _ in range(3000):
            for is_receiver_text, pool in pools.items():
                weights = [6 if plain_wrong_word(word, is_receiver_text) is None else 1 for word in pool]
                text = " ".join(source.choices(pool, weights, k=source.randint(1, 10)))
                self.assert_any(text, is_receiver_text)

    def test_any_signs(self):
        source = random.Random(226)
        for _ in range(4000):
            for is_receiver_text, signs in [(True, "mmdp/..--0159  x"), (False, "===--..0159  x")]:
                text = "".join(source.choices(signs, k=source.randint(1, 7)))
                self.assert_any(text, is_receiver_text)

    def test_long_texts(self):
        for call in (parse_receiver, parse_looks):
            for text, index in [("m" * 10 ** 4, 0), ("9" * 10 ** 4, 0), (" " * 10 ** 4, 0), ("m5 " * 3333, None)]:
                self.assertEqual(reads(call, text)[0], "wrong")
                if index is not None:
                    self.assert_wrong(call, text, index)
        self.assert_wrong(parse_receiver, "m5 " * 3333, 8)
        self.assert_wrong(parse_receiver, "m" + "9" * 9999, 0)
        self.assert_wrong(parse_looks, "0=" + str(BIG) + ".." + "9" * 9000, 0)


if __name__ == "__main__":
    unittest.main()
