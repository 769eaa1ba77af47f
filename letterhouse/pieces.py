"""Pieces of letters: headers and a body of bytes or of pieces, written as rows and read from them."""

from letterhouse.errors import BadBody, BadHeader, BadPiece, BadRow, Wrong
from letterhouse.headers import Header, header_of
from letterhouse.rows import folded, unfolded, wrong_row_place
from letterhouse.signs import (ROW_SIGNS, bytes_of_signs, first_wrong, is_bytes, is_sign, is_sign_byte, no_text_row,
                               sign_of_byte)
from letterhouse.sixteens import ROW_END, bytes_of_sixteens, lines_of, sixteens_of
from letterhouse.sixty import bytes_of_sixty, sixty_of

BODY = "body"
PLAIN = "plain"
SIXTEENS = "sixteens"
SIXTY = "sixty"
PIECES = "pieces "
BORDER_HEAD = "--"
BORDER_TAIL = "--"
BORDER_SIGNS = "abcdefghijklmnopqrstuvwxyz0123456789"
BORDER_MOST = 12
# Behind it stand the numbers of the borders that are written.
BORDER_LETTER = "b"
MOST_PIECES = 8
MOST_DEEP = 4


class Piece:
    """Headers, and a body: a row of bytes, or pieces."""

    def __init__(self, headers, row=None, pieces=None):
        self.headers = own_list(headers)
        self.row = own_list(row)
        self.pieces = own_list(pieces)


def own_list(thing):
    """A copy of a list; any other thing as it is."""
    return list(thing) if isinstance(thing, list) else thing


def piece_rows(piece):
    """The rows by which a piece is written."""
    if not is_piece(piece):
        raise BadPiece("no piece")
    return written_rows(piece)


def is_piece(thing):
    """Whether it is a piece that can be written."""
    return is_piece_at(thing, 1)


def is_piece_at(thing, deep):
    """Whether it is a good piece, so many deep with those around it."""
    if deep > MOST_DEEP or not isinstance(thing, Piece) or not are_headers(thing.headers):
        return False
    if thing.pieces is None:
        return is_bytes(thing.row)
    if thing.row is not None or not isinstance(thing.pieces, list) or not 1 <= len(thing.pieces) <= MOST_PIECES:
        return False
    return all([is_piece_at(piece, deep + 1) for piece in thing.pieces])


def are_headers(thing):
    """Whether it is a list of headers, none called body."""
    return isinstance(thing, list) and all([isinstance(header, Header) and header.name != BODY for header in thing])


def written_rows(piece):
    """The rows of a good piece."""
    rows = []
    for header in piece.headers:
        rows.extend(folded(header.name, header.value()))
    way, body = written_bytes(piece.row) if piece.pieces is None else written_pieces(piece.pieces)
    return rows + folded(BODY, way) + [""] + body


def written_bytes(row):
    """The way by which bytes are written as a body, and its rows."""
    lines = lines_of(row)
    if all([is_plain_line(line) for line in lines]):
        return PLAIN, ["".join([sign_of_byte(byte) for byte in line]) for line in lines]
    sixteens = sixteens_of(row)
    sixty = sixty_of(row)
    if many_signs(sixteens) <= many_signs(sixty):
        return SIXTEENS, sixteens
    return SIXTY, sixty


def is_plain_line(line):
    """Whether bytes between two ends of rows can be written as their signs."""
    return len(line) <= ROW_SIGNS and all([is_sign_byte(byte) for byte in line]) and line[-1:] != [ord(" ")]


def many_signs(rows):
    """How many signs rows have, their ends counted."""
    return sum([len(row) + 1 for row in rows])


def written_pieces(pieces):
    """The way by which pieces are written as a body, and its rows."""
    parts = [written_rows(piece) for piece in pieces]
    border = free_border([row for part in parts for row in part])
    rows = []
    for part in parts:
        rows.append(BORDER_HEAD + border)
        rows.extend(part)
    rows.append(BORDER_HEAD + border + BORDER_TAIL)
    return PIECES + border, rows


def free_border(rows):
    """The first border that no row begins with."""
    head = BORDER_HEAD + BORDER_LETTER
    # A row takes all borders that it begins with, whatever stands behind them.
    taken = {row[:many]: True for row in rows if row.startswith(head) for many in range(len(row) + 1)}
    number = 0
    while f"{head}{number}" in taken:
        number += 1
    return f"{BORDER_LETTER}{number}"


def piece_of(rows):
    """The piece that rows tell."""
    number = no_text_row(rows)
    if number > 0:
        raise BadRow(number, 1)
    return read_piece(rows, 0, len(rows), 1)


def read_piece(rows, start, end, deep):
    """The piece that stands in rows from start on, up to end; so many deep with those around it."""
    *starts, gap = header_bounds(rows, start, end)
    *pairs, (_, way) = unfolded(rows[start:gap])
    has_gap = gap < end and rows[gap] == ""
    headers = read_headers(pairs, starts, gap, has_gap)
    body = starts[-1]
    # The row of the header body stands ahead of that behind it, so it is refused first where both are wrong.
    if not is_way(way, deep):
        raise BadBody(body + 1, 1)
    if not has_gap:
        raise BadRow(gap + 1, 1)
    if way.startswith(PIECES):
        bounds = piece_bounds(rows, body, BORDER_HEAD + way.removeprefix(PIECES), gap + 1, end)
        return Piece(headers, None, read_pieces(rows, bounds, end, deep))
    return Piece(headers, read_bytes(rows, way, gap + 1, end))


def header_bounds(rows, start, end):
    """Where each header of a piece begins, that of its body the last, and the place behind the rows of that."""
    bounds = []
    name = ""
    for at in range(start, end):
        goes_on = rows[at].startswith(" ")
        if name == BODY and not goes_on:
            return bounds + [at]
        place = wrong_row_place(rows[at], at > start)
        if place > 0:
            raise BadRow(at + 1, place)
        if not goes_on:
            bounds.append(at)
            name = rows[at].partition(":")[0].lower()
    if name != BODY:
        raise BadRow(end + 1, 1)
    return bounds + [end]


def read_headers(pairs, starts, gap, has_gap):
    """The headers that pairs of names and values tell; starts tells where they begin, gap where their empty row is."""
    headers = []
    for at, (name, value) in enumerate(pairs):
        try:
            headers.append(header_of(name, value))
        except BadHeader as wrong:
            if not has_gap:
                raise BadRow(gap + 1, 1) from None
            raise BadHeader(starts[at] + 1, wrong.place) from None
    return headers


def is_way(way, deep):
    """Whether the value of a header body is one of the four, in a piece so many deep."""
    if way.startswith(PIECES):
        return is_border(way.removeprefix(PIECES)) and deep < MOST_DEEP
    return way in (PLAIN, SIXTEENS, SIXTY)


def is_border(word):
    """Whether a word can stand in the rows between pieces."""
    return 1 <= len(word) <= BORDER_MOST and all([sign in BORDER_SIGNS for sign in word])


def read_bytes(rows, way, start, end):
    """The bytes that rows tell by a way, from start on, up to end."""
    if way != SIXTY and start == end:
        raise BadRow(end + 1, 1)
    body = rows[start:end]
    try:
        if way == PLAIN:
            return bytes_of_plain(body)
        return bytes_of_sixteens(body) if way == SIXTEENS else bytes_of_sixty(body)
    except Wrong as wrong:
        raise BadBody(start + wrong.line, wrong.place) from None


def bytes_of_plain(rows):
    """The bytes that rows tell as they are."""
    line, place = first_wrong(rows, may_stand, may_end)
    if line > 0:
        raise BadBody(line, place)
    told = []
    for row in rows:
        told.extend(bytes_of_signs(row))
        told.append(ROW_END)
    # The end of the last row is the end of all, and no byte.
    return told[:-1]


def may_stand(sign, ahead):
    """Whether a sign may stand in its row behind the good signs ahead of it."""
    lacking = ROW_SIGNS - len(ahead)
    # A blank can't be the last sign, so there must be a place for one more.
    return is_sign(sign) and lacking > (1 if sign == " " else 0)


def may_end(row, _):
    """Whether a row of good signs may end where it does, the last one or not."""
    return not row.endswith(" ")


def piece_bounds(rows, body, border, start, end):
    """Where the borders of pieces stand in rows from start on, the last of them closing; that one is end if it lacks.

    body tells where the header stands that these pieces are the body of.
    """
    if start == end or rows[start] != border:
        raise BadBody(body + 1, 1)
    bounds = []
    at = start
    while at < end and rows[at] != border + BORDER_TAIL:
        if rows[at] == border:
            bounds.append(at)
        at += 1
    if len(bounds) > MOST_PIECES:
        raise BadBody(body + 1, 1)
    return bounds + [at]


def read_pieces(rows, bounds, end, deep):
    """The pieces between bounds, the last of which is behind all of them; these stand in a piece so many deep."""
    pieces = [read_piece(rows, bounds[at - 1] + 1, bounds[at], deep + 1) for at in range(1, len(bounds))]
    # Behind the pieces stands the closing border, and nothing behind that.
    close = bounds[-1]
    if close == end:
        raise BadRow(end + 1, 1)
    if close + 1 < end:
        raise BadRow(close + 2, 1)
    return pieces
