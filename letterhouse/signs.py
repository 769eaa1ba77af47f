"""Signs, rows of them and bytes: what every part of the house asks of what is handed in."""

ROW_SIGNS = 60
# Told by its number, because LANGUAGE.md lets no string contain it.
PERCENT = 37
# All signs in the order of their bytes, from 32 on; LANGUAGE.md has no other way from a byte to its sign.
SIGNS = " !\"#$&'()*+,-./0123456789:;<=>?@ABCDEFGHIJKLMNOPQRSTUVWXYZ[\\]^_`abcdefghijklmnopqrstuvwxyz{|}~"


def is_sign(sign):
    """Whether one character is a sign."""
    return " " <= sign <= "~" and ord(sign) != PERCENT


def wrong_sign_place(row):
    """The place of the first character that is no sign, or is the sixty-first; 0 where none is."""
    for at in range(len(row)):
        if at == ROW_SIGNS or not is_sign(row[at]):
            return at + 1
    return 0


def no_text_row(rows):
    """The number of the first row that is no text (1 where rows is no list); 0 of a list of texts."""
    if not isinstance(rows, list):
        return 1
    for at in range(len(rows)):
        if not isinstance(rows[at], str):
            return at + 1
    return 0


def first_wrong(rows, may_stand, may_end):
    """The row and the place of the first sign with which rows are no beginning of good ones; (0, 0) of good ones.

    may_stand tells of a sign and of the good ones ahead of it in its row whether it may stand there, may_end of a row
    of such signs, and of whether it is the last one, whether it may end there.
    """
    number = no_text_row(rows)
    if number > 0:
        return number, 1
    for at in range(len(rows)):
        good = good_signs(rows[at], may_stand)
        if good < len(rows[at]) or not may_end(rows[at], at == len(rows) - 1):
            return at + 1, good + 1
    return 0, 0


def good_signs(row, may_stand):
    """How many signs at the head of row may stand there."""
    for at in range(len(row)):
        if not may_stand(row[at], row[:at]):
            return at
    return len(row)


def is_number(thing):
    """Whether it is a whole number; True and False are none."""
    return isinstance(thing, int) and not isinstance(thing, bool)


def is_bytes(thing):
    """Whether it is a list of whole numbers from 0 to 255."""
    if not isinstance(thing, list):
        return False
    return all([is_number(byte) and 0 <= byte <= 255 for byte in thing])


def is_sign_byte(byte):
    """Whether a byte is that of a sign."""
    return 32 <= byte <= 126 and byte != PERCENT


def sign_of_byte(byte):
    """The sign of a byte that has one."""
    return SIGNS[byte - 32] if byte < PERCENT else SIGNS[byte - 33]


def bytes_of_signs(text):
    """The bytes of a text of signs."""
    return [ord(sign) for sign in text]
