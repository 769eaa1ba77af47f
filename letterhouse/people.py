"""People: ones and groups with their called names and addresses, written and read as texts."""

from letterhouse.errors import BadPeople
from letterhouse.reader import Astray, Reader

LOCAL_SIGNS = "abcdefghijklmnopqrstuvwxyz0123456789_-"
LOCAL_MOST = 20
HOUSE_SIGNS = "abcdefghijklmnopqrstuvwxyz0123456789"
HOUSE_MOST = 10
HOUSE_WORDS = 3
CALLED_SIGNS = "ABCDEFGHIJKLMNOPQRSTUVWXYZabcdefghijklmnopqrstuvwxyz0123456789"
CALLED_MOST = 12
CALLED_WORDS = 4
# Those that stand between quotes as they are; a blank does so but for behind another one.
QUOTED_SIGNS = "!#$&'()*+,-./0123456789:;<=>?@ABCDEFGHIJKLMNOPQRSTUVWXYZ[]^_`abcdefghijklmnopqrstuvwxyz{|}~"
QUOTED_MOST = 30
GROUP_ONES = 10
MOST_PEOPLE = 20


def people_of(text):
    """The ones and groups that a text tells."""
    if not isinstance(text, str):
        raise BadPeople(1, 1)
    try:
        return read_people(Reader(text))
    except Astray as stop:
        raise BadPeople(1, stop.place) from None


def read_people(reader):
    """The ones and groups of all that reader reads."""
    people = read_some(reader, read_one_or_group, MOST_PEOPLE)
    reader.end()
    return people


def read_some(reader, read, most):
    """1 to most of what read reads, a comma and a blank between."""
    found = [read(reader)]
    while len(found) < most and reader.sees(","):
        reader.word(", ")
        found.append(read(reader))
    return found


def read_one_or_group(reader):
    """A one or a group."""
    name = read_name(reader)
    if name != "" and reader.sees(":"):
        return "group", name, read_ones(reader)
    return "one", name, read_rest(reader, name)


def read_ones(reader):
    """The ones of a group, from the colon on."""
    reader.word(": ")
    ones = [] if reader.sees(";") else read_some(reader, read_one, GROUP_ONES)
    reader.word(";")
    return ones


def read_one(reader):
    """A one."""
    name = read_name(reader)
    return "one", name, read_rest(reader, name)


def read_rest(reader, name):
    """The address of a one, from behind its name on."""
    if name != "":
        reader.word(" ")
    return read_told_address(reader)


def read_told_address(reader):
    """An address between < and >."""
    reader.word("<")
    address = read_address(reader)
    reader.word(">")
    return address


def read_address(reader):
    """An address."""
    local = reader.run(LOCAL_SIGNS, LOCAL_MOST)
    reader.word("@")
    words = [reader.run(HOUSE_SIGNS, HOUSE_MOST)]
    while len(words) < HOUSE_WORDS and reader.sees("."):
        reader.word(".")
        words.append(reader.run(HOUSE_SIGNS, HOUSE_MOST))
    return local + "@" + ".".join(words)


def is_address(text):
    """Whether a text is an address."""
    local, _, house = text.partition("@")
    words = house.split(".", HOUSE_WORDS)
    if len(words) > HOUSE_WORDS or not is_run(local, LOCAL_SIGNS, LOCAL_MOST):
        return False
    for word in words:
        if not is_run(word, HOUSE_SIGNS, HOUSE_MOST):
            return False
    return True


def is_run(text, signs, most):
    """Whether text is 1 to most of some signs."""
    return 1 <= len(text) <= most and text.strip(signs) == ""


def read_name(reader):
    """A called name; an empty text where there is none."""
    if reader.sees("<"):
        return ""
    return read_quoted(reader) if reader.sees('"') else read_words(reader)


def read_words(reader):
    """A called name of plain words."""
    words = [reader.run(CALLED_SIGNS, CALLED_MOST)]
    while len(words) < CALLED_WORDS and reader.sees(" ") and not reader.sees_word(" <"):
        reader.word(" ")
        words.append(reader.run(CALLED_SIGNS, CALLED_MOST))
    return " ".join(words)


def read_quoted(reader):
    """A called name between quotes, without these and the backslashes that are not counted."""
    reader.word('"')
    name = read_quoted_sign(reader, "")
    while len(name) < QUOTED_MOST and not reader.sees('"'):
        name += read_quoted_sign(reader, name)
    reader.word('"')
    return name


def read_quoted_sign(reader, ahead):
    """A sign of a called name between quotes, behind those ahead of it."""
    if reader.sees("\\"):
        reader.word("\\")
        return reader.one_of("\"\\")
    return reader.one_of(QUOTED_SIGNS if ahead.endswith(" ") else " " + QUOTED_SIGNS)


def people_text(people):
    """The text of ones and groups."""
    return ", ".join([group_text(told) if told[0] == "group" else one_text(told) for told in people])


def group_text(group):
    """The text of a group."""
    _, name, ones = group
    return called(name) + ": " + ", ".join([one_text(one) for one in ones]) + ";"


def one_text(one):
    """The text of a one."""
    _, name, address = one
    return f"<{address}>" if name == "" else f"{called(name)} <{address}>"


def called(name):
    """A called name as it is written."""
    if is_plain_name(name):
        return name
    slashed = name.replace("\\", "\\\\").replace('"', "\\\"")
    return f'"{slashed}"'


def is_plain_name(name):
    """Whether a called name is plain words."""
    words = name.split(" ")
    return len(words) <= CALLED_WORDS and all([is_plain_word(word) for word in words])


def is_plain_word(word):
    """Whether a word of a called name needs no quotes."""
    return 1 <= len(word) <= CALLED_MOST and all([sign in CALLED_SIGNS for sign in word])
