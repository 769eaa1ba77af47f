"""The refusals of the house."""


class HouseError(ValueError):
    """Any refusal, with the name of its class in small letters."""

    def __init__(self, why=""):
        super().__init__(why)
        self.kind = self.__class__.__name__.lower()


class BadBytes(HouseError):
    """What should be bytes is no list of whole numbers from 0 to 255."""


class BadName(HouseError):
    """What should be a name is none."""


class BadValue(HouseError):
    """What should be a header's value is none."""


class TooLong(HouseError):
    """A word of a value goes into no row."""


class NoTime(HouseError):
    """A minute, or by how much it is ahead, can not be written as a time."""


class BadPiece(HouseError):
    """What should be a piece, or a letter, is none."""


class Twice(HouseError):
    """A letter of that address is there already."""


class NoLetter(HouseError):
    """No letter of that address is there."""


class NoFolder(HouseError):
    """The letter is not in that folder."""


class BadLine(HouseError):
    """A line that asks for nothing that the house does."""


class Wrong(HouseError):
    """A refusal of rows, with the row and the place in it, both counted from 1."""

    def __init__(self, line, place):
        super().__init__(f"row {line}, place {place}")
        self.line = line
        self.place = place


class BadRow(Wrong):
    """A row that is none of headers, or none of a letter."""


class BadSixty(Wrong):
    """Rows that are not bytes written by sixty-four signs."""


class BadSixteens(Wrong):
    """Rows that are not bytes written by sixteens."""


class BadTime(Wrong):
    """A text that is no time."""


class BadPeople(Wrong):
    """A text that is no people."""


class BadHeader(Wrong):
    """A header whose value does not say what its name asks for."""


class BadBody(Wrong):
    """A piece whose body is wrong."""


class BadRule(Wrong):
    """A row that is no rule."""
