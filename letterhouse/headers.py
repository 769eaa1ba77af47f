"""Headers: what they say, and the values that tell it."""

from letterhouse.errors import BadHeader, BadName, BadValue
from letterhouse.people import people_text, read_one, read_people, read_told_address
from letterhouse.reader import Astray, Reader
from letterhouse.rows import NAME_LETTERS, SMALL, is_header_name, is_value
from letterhouse.times import read_time, time_text
from letterhouse.words import bytes_of_value, value_of

MOST_IDS = 30
MOST_MARKS = 10


class Header:
    """A header of a name that asks for nothing: what it says is its text."""

    def __init__(self, name, text):
        self.name = name
        self._said = text

    def value(self):
        """The value that is written."""
        return self._said

    def told(self):
        """What the header says."""
        return self._said


class People(Header):
    """A header that tells people, or just one."""

    def __init__(self, name, people):
        super().__init__(name, copy_of_people(people))

    def value(self):
        """The value that is written."""
        return people_text(self._said)

    def told(self):
        """The ones and groups that the header tells."""
        return copy_of_people(self._said)


class When(Header):
    """A header that tells a time: a minute, and by how many minutes it is told ahead."""

    def __init__(self, name, time):
        minute, ahead = time
        super().__init__(name, (minute, ahead))

    def value(self):
        """The value that is written."""
        minute, ahead = self._said
        return time_text(minute, ahead)

    def told(self):
        """The pair that the header tells."""
        return self._said


class Ids(Header):
    """A header that tells addresses of letters."""

    def __init__(self, name, addresses):
        super().__init__(name, list(addresses))

    def value(self):
        """The value that is written."""
        return " ".join([f"<{address}>" for address in self._said])

    def told(self):
        """The addresses that the header tells."""
        return list(self._said)


class About(Header):
    """A header that tells bytes."""

    def __init__(self, name, row):
        super().__init__(name, list(row))

    def value(self):
        """The value that is written."""
        return value_of(self._said)

    def told(self):
        """The bytes that the header tells."""
        return list(self._said)


class Marks(Header):
    """A header that tells the marks of a letter."""

    def __init__(self, name, marks):
        super().__init__(name, list(marks))

    def value(self):
        """The value that is written."""
        return ", ".join(self._said)

    def told(self):
        """The marks that the header tells."""
        return list(self._said)


def copy_of_people(people):
    """Ones and groups once more, with lists of their own."""
    return [(told[0], told[1], list(told[2])) if told[0] == "group" else told for told in people]


def header_of(name, value):
    """The header of a name that is written by a value."""
    if not is_header_name(name):
        raise BadName("no name of a header")
    if not is_value(value):
        raise BadValue("no value of a header")
    try:
        return read_header(name, value)
    except Astray as stop:
        raise BadHeader(1, stop.place) from None


def read_header(name, value):
    """The header that a value tells, read by what its name asks for."""
    reader = Reader(value)
    match name:
        case "from":
            header = People(name, [read_one(reader)])
        case "to" | "copy":
            header = People(name, read_people(reader))
        case "date":
            header = When(name, read_time(reader))
        case "id" | "answers":
            header = Ids(name, read_ids(reader, 1))
        case "refers":
            header = Ids(name, read_ids(reader, MOST_IDS))
        case "marks":
            header = Marks(name, read_marks(reader))
        case "about":
            return About(name, bytes_of_value(value))
        case _:
            return Header(name, value)
    reader.end()
    return header


def read_ids(reader, most):
    """1 to most addresses of letters, a blank between."""
    ids = [read_told_address(reader)]
    while len(ids) < most and reader.sees(" "):
        reader.word(" ")
        ids.append(read_told_address(reader))
    return ids


def read_marks(reader):
    """1 to 10 rising names, a comma and a blank between."""
    marks = [read_mark(reader, "")]
    while len(marks) < MOST_MARKS and reader.sees(","):
        reader.word(", ")
        marks.append(read_mark(reader, marks[-1]))
    return marks


def read_mark(reader, ahead):
    """A name that is greater than that ahead of it."""
    if reader.run_ahead(SMALL) <= ahead:
        raise Astray(reader.at + 1)
    return reader.run(SMALL, NAME_LETTERS)
