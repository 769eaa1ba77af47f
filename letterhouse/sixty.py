"""Bytes written by sixty-four signs, and read from them."""

from letterhouse.errors import BadBytes, BadSixty
from letterhouse.signs import ROW_SIGNS, first_wrong, is_bytes

SIXTY_FOUR = "ABCDEFGHIJKLMNOPQRSTUVWXYZabcdefghijklmnopqrstuvwxyz0123456789+/"


def sixty_of(row):
    """The rows by which a row of bytes is written."""
    if not is_bytes(row):
        raise BadBytes("no list of whole numbers from 0 to 255")
    text = "".join([four_of(row[at:at + 3]) for at in range(0, len(row), 3)])
    return [text[at:at + ROW_SIGNS] for at in range(0, len(text), ROW_SIGNS)]


def four_of(row):
    """The four signs of 1 to 3 bytes."""
    lacking = 3 - len(row)
    number = 0
    for byte in row + [0] * lacking:
        number = number << 8 | byte
    signs = "".join([SIXTY_FOUR[number >> shift & 63] for shift in (18, 12, 6, 0)])
    return signs[:4 - lacking] + "=" * lacking


def bytes_of_sixty(rows):
    """The bytes that rows tell."""
    line, place = first_wrong(rows, may_stand, may_end)
    if line > 0:
        raise BadSixty(line, place)
    text = "".join(rows)
    return [byte for at in range(0, len(text), 4) for byte in bytes_of_four(text[at:at + 4])]


def bytes_of_four(signs):
    """The 1 to 3 bytes of four good signs."""
    number = 0
    for sign in signs:
        number = number << 6 | bits_of(sign)
    row = [number >> 16, number >> 8 & 255, number & 255]
    return row[:3 - signs.count("=")]


def bits_of(sign):
    """The number of six bits that a sign stands for; 0 of =."""
    return max(0, SIXTY_FOUR.find(sign))


def may_stand(sign, ahead):
    """Whether a sign may stand in its row behind the good signs ahead of it."""
    if len(ahead) == ROW_SIGNS:
        return False
    if sign == "=":
        return may_fill(ahead)
    return sign in SIXTY_FOUR and not ahead.endswith("=")


def may_fill(ahead):
    """Whether a = may stand behind the good signs ahead: the bits that lack must be nought."""
    stand = len(ahead) % 4
    if stand == 2:
        return bits_of(ahead[-1]) & 15 == 0
    if stand == 3:
        return bits_of(ahead[-1]) & 3 == 0
    return False


def may_end(row, last):
    """Whether a row of good signs may end where it does."""
    if last:
        return len(row) > 0 and len(row) % 4 == 0
    return len(row) == ROW_SIGNS and not row.endswith("=")
