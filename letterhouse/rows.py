"""Headers written as rows, and read from rows."""

from letterhouse.errors import BadName, BadRow, BadValue, TooLong
from letterhouse.signs import ROW_SIGNS, is_sign, no_text_row, wrong_sign_place

SMALL = "abcdefghijklmnopqrstuvwxyz"
NAME_LETTERS = 12
HEADER_WORDS = 3
HEADER_LETTERS = 8


def is_small_word(text, most):
    """Whether text is 1 to most small letters."""
    return 1 <= len(text) <= most and text.strip(SMALL) == ""


def is_name(thing):
    """Whether it is a name: a text of 1 to 12 small letters."""
    return isinstance(thing, str) and is_small_word(thing, NAME_LETTERS)


def is_header_name(thing):
    """Whether it is a header's name: 1 to 3 words of 1 to 8 small letters with a - between."""
    if not isinstance(thing, str):
        return False
    words = thing.split("-")
    return len(words) <= HEADER_WORDS and all([is_small_word(word, HEADER_LETTERS) for word in words])


def is_value(thing):
    """Whether it is a header's value: no words, or words of signs with one blank between."""
    if not isinstance(thing, str) or not all([is_sign(sign) for sign in thing]):
        return False
    return thing == "" or "" not in thing.split(" ")


def folded(name, value):
    """The rows of a header, as many words in each as go into it."""
    if not is_header_name(name):
        raise BadName("no name of a header")
    if not is_value(value):
        raise BadValue("no value of a header")
    words = value.split()
    if not all([goes_into_rows(word) for word in words]):
        raise TooLong("a word goes into no row")
    rows = [great_name(name) + ":"]
    for word in words:
        if len(rows[-1]) + 1 + len(word) > ROW_SIGNS:
            rows.append("")
        rows[-1] += " " + word
    return rows


def goes_into_rows(word):
    """Whether a word of a value is short enough to stand in a row."""
    # A row begins with the blank of its first word, so one sign less is left for the word.
    return len(word) < ROW_SIGNS


def great_name(name):
    """A header's name with each word's first letter great."""
    return "-".join([word.capitalize() for word in name.split("-")])


def unfolded(rows):
    """The headers that stand in rows: pairs of a name in small letters and a value."""
    refuse_wrong_rows(rows)
    headers = []
    for row in rows:
        if row.startswith(" "):
            headers[-1][1].extend(row.split())
        else:
            name, _, rest = row.partition(":")
            headers.append((name.lower(), rest.split()))
    return [(name, " ".join(words)) for name, words in headers]


def refuse_wrong_rows(rows):
    """Raise BadRow where rows are not those of headers."""
    number = no_text_row(rows)
    if number > 0:
        raise BadRow(number, 1)
    for at in range(len(rows)):
        place = wrong_row_place(rows[at], at > 0)
        if place > 0:
            raise BadRow(at + 1, place)


def wrong_row_place(row, behind):
    """The first place with which row is no beginning of a header's row; 0 of a good one.

    behind tells whether it stands behind a row of headers, so that it may go on with that.
    """
    if not (behind and row.startswith(" ")):
        many = name_signs(row)
        if not is_header_name(row[:many].lower()) or row[many:many + 1] != ":":
            return many + 1
    return wrong_sign_place(row)


def name_signs(row):
    """How many signs at the head of row are a header's name, or a beginning of one."""
    words = 1
    letters = 0
    for at in range(len(row)):
        if row[at] == "-" and letters > 0 and words < HEADER_WORDS:
            words += 1
            letters = 0
        elif is_letter(row[at]) and letters < HEADER_LETTERS:
            letters += 1
        else:
            return at
    return len(row)


def is_letter(sign):
    """Whether one character is a letter from a to z, of either size."""
    return "a" <= sign <= "z" or "A" <= sign <= "Z"
