"""Letters: pieces that tell what they are, from whom and of when."""

from letterhouse.errors import BadBody, BadPiece, BadRow
from letterhouse.pieces import is_piece, piece_of, piece_rows
from letterhouse.signs import wrong_sign_place

JUST_ONCE = ("id", "from", "date")
ONCE_AT_MOST = ("answers", "refers", "marks")


def letter_text(piece):
    """The text by which a letter is written."""
    if not is_piece(piece) or not is_whole(piece):
        raise BadPiece("no letter")
    return "\n".join(piece_rows(piece))


def letter_of(text):
    """The letter that a text tells."""
    if not isinstance(text, str):
        raise BadRow(1, 1)
    rows = text.split("\n")
    for at in range(len(rows)):
        place = wrong_sign_place(rows[at])
        if place > 0:
            raise BadRow(at + 1, place)
    piece = piece_of(rows)
    if not is_whole(piece):
        raise BadBody(1, 1)
    return piece


def is_whole(piece):
    """Whether a good piece has the headers that a letter has."""
    names = [header.name for header in piece.headers]
    once = all([names.count(name) == 1 for name in JUST_ONCE])
    return once and all([names.count(name) <= 1 for name in ONCE_AT_MOST])


def said(piece, name):
    """What the headers of a name say, in their order."""
    return [header.told() for header in piece.headers if header.name == name]


def id_of(piece):
    """The address of a letter."""
    return said(piece, "id")[0][0]


def sender_of(piece):
    """The address of the one whom a letter is from."""
    _, _, address = said(piece, "from")[0][0]
    return address


def minute_of(piece):
    """The minute of a letter's date."""
    return said(piece, "date")[0][0]
