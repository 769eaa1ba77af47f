"""Signs, rows of them and bytes: what every part of the house asks of what is handed in."""

ROW_SIGNS = 60
# Told by its number, because LANGUAGE.md lets no string contain it.
PERCENT = 37


def is_sign(sign):
    """Whether one character is a sign."""
    return " " <= sign <= "~" and ord(sign) != PERCENT


def wrong_sign_place(row):
    """The place of the first character that is no sign, or is the sixty-first; 0 where none is."""
    for at in range(len(row)):
        if at == ROW_SIGNS or not is_sign(row[at]):
            return at + 1
    return 0


def no_text_row(rows):
    """The number of the first row that is no text (1 where rows is no list); 0 of a list of texts."""
    if not isinstance(rows, list):
        return 1
    for at in range(len(rows)):
        if not isinstance(rows[at], str):
            return at + 1
    return 0


def is_number(thing):
    """Whether it is a whole number; True and False are none."""
    return isinstance(thing, int) and not isinstance(thing, bool)


def is_bytes(thing):
    """Whether it is a list of whole numbers from 0 to 255."""
    if not isinstance(thing, list):
        return False
    return all([is_number(byte) and 0 <= byte <= 255 for byte in thing])
