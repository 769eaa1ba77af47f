"""Bytes as a header's value, and read from it."""

from letterhouse.errors import BadBytes, BadSixty, BadValue
from letterhouse.rows import goes_into_rows, is_value
from letterhouse.signs import bytes_of_signs, is_bytes, is_sign_byte, sign_of_byte
from letterhouse.sixty import bytes_of_sixty, sixty_of

HEAD = "=?"
TAIL = "?="
WORD_BYTES = 24
FEWEST_SIGNS = 4
MOST_SIGNS = 32


def value_of(row):
    """The value that tells a row of bytes."""
    if not is_bytes(row):
        raise BadBytes("no list of whole numbers from 0 to 255")
    if all([is_sign_byte(byte) for byte in row]):
        text = "".join([sign_of_byte(byte) for byte in row])
        if may_stand_plain(text):
            return text
    return " ".join([word_of(row[at:at + WORD_BYTES]) for at in range(0, len(row), WORD_BYTES)])


def may_stand_plain(text):
    """Whether a text of signs is a value that is written as it is."""
    return is_value(text) and all([goes_into_rows(word) and not word.startswith(HEAD) for word in text.split()])


def word_of(row):
    """The word that tells 1 to 24 bytes."""
    return HEAD + sixty_of(row)[0] + TAIL


def bytes_of_value(value):
    """The bytes that a value tells."""
    if not is_value(value):
        raise BadValue("no value of a header")
    parts = [bytes_of_word(word) for word in value.split()]
    if None in parts:
        return bytes_of_signs(value)
    return [byte for part in parts for byte in part]


def bytes_of_word(word):
    """The bytes of a word that tells such; None of any other word."""
    signs = word[len(HEAD):-len(TAIL)]
    if word != HEAD + signs + TAIL or not FEWEST_SIGNS <= len(signs) <= MOST_SIGNS:
        return None
    try:
        return bytes_of_sixty([signs])
    except BadSixty:
        return None
