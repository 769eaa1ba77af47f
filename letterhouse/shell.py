"""The house asked by lines."""

from letterhouse.errors import BadLine, HouseError, Wrong


def answer(house, line):
    """What the house answers to a line."""
    try:
        return obey(house, words_of_line(line))
    except Wrong as wrong:
        return f"refused {wrong.kind} {wrong.line} {wrong.place}"
    except HouseError as error:
        return f"refused {error.kind}"


def words_of_line(line):
    """The words of a line."""
    if not isinstance(line, str) or "\n" in line:
        raise BadLine("no text without line ends")
    words = line.split(" ")
    if "" in words:
        raise BadLine("an empty word")
    return words


def obey(house, words):
    """Do what the words of a line ask for, and tell what is asked for."""
    match words:
        case ["folders", address]:
            return " ".join(house.folders(address))
        case ["marks", address]:
            return " ".join(house.marks(address))
        case ["folder", name]:
            return " ".join(house.folder(name))
        case ["names"]:
            return " ".join(house.names())
        case ["threads", name]:
            return "\n".join(house.threads(name))
        case ["text", address]:
            return house.text(address)
        case _:
            change(house, words)
            return "done"


def change(house, words):
    """Do what the words of a line ask for."""
    match words:
        case ["move", address, folder, other]:
            house.move(address, folder, other)
        case ["drop", address, folder]:
            house.drop(address, folder)
        case ["mark", address, name]:
            house.mark(address, name)
        case ["unmark", address, name]:
            house.unmark(address, name)
        case _:
            raise BadLine("the house does nothing of that kind")


def play(house, lines):
    """What the house answers to each of several lines."""
    return [answer(house, line) for line in lines]
