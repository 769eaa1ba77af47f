"""Bytes written by sixteens, and read from them."""

from letterhouse.errors import BadBytes, BadSixteens
from letterhouse.signs import ROW_SIGNS, bytes_of_signs, first_wrong, is_bytes, is_sign, is_sign_byte, sign_of_byte

ROW_END = 10
SIXTEEN = "0123456789ABCDEF"


def sixteens_of(row):
    """The rows by which a row of bytes is written."""
    if not is_bytes(row):
        raise BadBytes("no list of whole numbers from 0 to 255")
    return [told for line in lines_of(row) for told in cut(parts_of(line))]


def lines_of(row):
    """The bytes between the ends of rows."""
    lines = [[]]
    for byte in row:
        if byte == ROW_END:
            lines.append([])
        else:
            lines[-1].append(byte)
    return lines


def parts_of(line):
    """The signs of each byte of a line."""
    parts = [part_of(byte) for byte in line]
    if parts[-1:] == [" "]:
        parts[-1] = figures_of(ord(" "))
    return parts


def part_of(byte):
    """The signs of a byte that does not stand at the end of a line."""
    if is_sign_byte(byte) and byte != ord("="):
        return sign_of_byte(byte)
    return figures_of(byte)


def figures_of(byte):
    """A byte as = and two figures."""
    return f"={byte:02X}"


def cut(parts):
    """The rows of a line, made of the signs of its bytes."""
    rows = []
    row = ""
    left = len("".join(parts))
    for part in parts:
        # A row that all of the rest goes into needs no sign for a = at its end.
        if left > ROW_SIGNS and len(row) + len(part) >= ROW_SIGNS:
            rows.append(row + "=")
            left -= len(row)
            row = ""
        row += part
    rows.append(row)
    return rows


def bytes_of_sixteens(rows):
    """The bytes that rows tell."""
    if rows == []:
        raise BadSixteens(1, 1)
    line, place = first_wrong(rows, may_stand, may_end)
    if line > 0:
        raise BadSixteens(line, place)
    told = []
    for row in rows:
        told.extend(bytes_of_row(row))
        if not row.endswith("="):
            told.append(ROW_END)
    # The end of the last row is the end of all, and no byte.
    return told[:-1]


def bytes_of_row(row):
    """The bytes of a good row, without its end."""
    head, *parts = row.removesuffix("=").split("=")
    told = bytes_of_signs(head)
    for part in parts:
        told.append(int(part[:2], 16))
        told.extend(bytes_of_signs(part[2:]))
    return told


def may_stand(sign, ahead):
    """Whether a sign may stand in its row behind the good signs ahead of it."""
    lacking = ROW_SIGNS - len(ahead)
    if lacking == 0 or not is_sign(sign):
        return False
    if ahead.endswith("="):
        # Behind the first figure there must be a place for the second one.
        return sign in SIXTEEN and lacking > 1
    if ends_in_one_figure(ahead):
        return sign in SIXTEEN
    # A blank can't be the last sign, so there must be a place for one more.
    return sign != " " or lacking > 1


def may_end(row, last):
    """Whether a row of good signs may end where it does."""
    if row.endswith(" ") or ends_in_one_figure(row):
        return False
    return not (last and row.endswith("="))


def ends_in_one_figure(row):
    """Whether a = stands one sign ahead of the end of row, so that a figure more is wanted."""
    return row[-2:-1] == "="
