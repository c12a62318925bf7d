"""Words of texts and commands: numbers and bands. A word that is none is read as None."""

from imagetones.checks import is_band

DIGITS = "0123456789"
MOST_DIGITS = 30


def read_number(word):
    """The integer that a word tells."""
    digits = word[1:] if word.startswith("-") else word
    if not 1 <= len(digits) <= MOST_DIGITS or not all([sign in DIGITS for sign in digits]):
        return None
    # Neither leading zeros nor -0 are written.
    if digits[0] == "0" and word != "0":
        return None
    return int(word)


def read_natural(word):
    """The integer from 0 on that a word tells."""
    return None if word.startswith("-") else read_number(word)


def read_band(word):
    """The band that a word tells."""
    least, _, greatest = word.partition("..")
    band = (read_natural(least), read_natural(greatest))
    return band if is_band(band) else None
