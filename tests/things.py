"""What several tests hand in."""

# Of any kind but a text.
NO_TEXTS = (None, True, False, 0, 7, -1, b"abc", b"", [], ["abc"], ("a", "b"), {"a": 1}, {"a"}, 1.5, object(), str)
# Of any kind but a list.
NO_LISTS = (None, True, False, 0, 7, "", "A: b", "AAAA", b"abc", (), ("A: b",), ("AAAA",), (1, 2), {}, {"A: b": 1},
            {"AAAA"}, range(3), iter([]), bytearray(b"ab"), object(), list)
# Characters that are no signs: beside the signs' edges, the percent sign, and some beyond ASCII.
NO_SIGNS = ("\x00", "\t", "\n", "\r", "\x1f", "%", "\x7f", "\x80", "\xa0", "\xe4", "\u0131", "\u2028", "\u3042",
            "\U0001f600", "\ud800")
SIGNS = "".join(chr(number) for number in range(32, 127) if number != 37)
# Of any kind but a byte.
NO_BYTES = (-1, 256, 10 ** 29, -10 ** 29, True, False, None, "a", "65", b"a", 1.0, 65.5, [], [65], (65,))
# Of any kind but a whole number.
NO_NUMBERS = (None, True, False, "", "7", b"7", [], [7], (7,), {}, {7}, object(), int)


def refusal(kind, call, *things):
    """The error with which call refuses things; it must be just of that kind."""
    try:
        told = call(*things)
    except kind as error:
        if type(error) is not kind:
            raise AssertionError(f"{type(error)} instead of {kind} of {things!r}") from error
        return error
    raise AssertionError(f"{things!r} is not refused but tells {told!r}")


def where(kind, call, *things):
    """The row and the place at which call refuses things."""
    error = refusal(kind, call, *things)
    return error.line, error.place


def some_bytes(many):
    """Bytes of all sizes, others for each many."""
    return [(step * 89 + step * step * 7 + many) % 256 for step in range(many)]


def first_bad_place(text, is_good, ends):
    """The first place with which text is no beginning of a good one; 0 of a good one.

    It is told from nothing but which texts are good; ends must have what makes each beginning whole.
    """
    if is_good(text):
        return 0
    for many in range(1, len(text) + 1):
        if not any(is_good(text[:many] + end) for end in ends):
            return many
    return len(text) + 1
