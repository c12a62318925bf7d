"""Texts of receivers and looks."""

from imagetones.checks import MOST_LOOKS, MOST_STAGES, is_rate
from imagetones.errors import InvalidSyntax
from imagetones.stages import dial_place
from imagetones.words import read_band, read_natural, read_number


def format_receiver(receiver):
    """The text of a receiver."""
    stages, rate = receiver
    words = [_stage_word(stage) for stage in stages]
    if rate is not None:
        words.append(f"/{rate}")
    return " ".join(words)


def format_looks(looks):
    """The text of looks."""
    return " ".join([_look_word(look) for look in looks])


def parse_receiver(text):
    """The receiver with a text."""
    stages = []
    rate = None
    for index, word in enumerate(_words_of(text)):
        if rate is not None:
            raise InvalidSyntax(index)
        stage = _read_stage(word)
        if stage is not None and _may_follow(stages, stage):
            stages.append(stage)
            continue
        rate = _read_rate(word) if stages else None
        if rate is None:
            raise InvalidSyntax(index)
    return (stages, rate)


def parse_looks(text):
    """The looks with a text."""
    looks = []
    for index, word in enumerate(_words_of(text)):
        look = _read_look(word)
        if look is None or len(looks) == MOST_LOOKS:
            raise InvalidSyntax(index)
        looks.append(look)
    return looks


def _words_of(text):
    if not isinstance(text, str):
        raise InvalidSyntax(None)
    return text.split(" ")


def _stage_word(stage):
    if stage[0] == "mix":
        return f"m{stage[1]}"
    if stage[0] == "dial":
        return f"d{stage[1]}"
    return f"p{stage[1]}..{stage[2]}"


def _look_word(look):
    dial, least, greatest = look
    return f"{dial}=-" if least is None else f"{dial}={least}..{greatest}"


def _read_stage(word):
    """The stage that a word tells, None if it tells none."""
    kind, rest = word[:1], word[1:]
    if kind == "p":
        band = read_band(rest)
        return None if band is None else ("pass", band[0], band[1])
    if kind == "m":
        lo = read_natural(rest)
        return None if lo is None else ("mix", lo)
    add = read_number(rest) if kind == "d" else None
    return None if add is None else ("dial", add)


def _read_rate(word):
    """The rate that a word tells, None if it tells none."""
    rate = read_natural(word[1:]) if word.startswith("/") else None
    return rate if is_rate(rate) else None


def _may_follow(stages, stage):
    """Whether a stage can stand behind these stages."""
    return len(stages) < MOST_STAGES and (stage[0] != "dial" or dial_place(stages) is None)


def _read_look(word):
    """The look that a word tells, None if it tells none."""
    place, _, rest = word.partition("=")
    dial = read_number(place)
    if dial is None:
        return None
    if rest == "-":
        return (dial, None, None)
    band = read_band(rest)
    return None if band is None else (dial, band[0], band[1])
