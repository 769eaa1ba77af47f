"""Rules: by which facts of a letter what is done with it."""

from letterhouse.errors import BadRule
from letterhouse.letters import said
from letterhouse.people import is_address
from letterhouse.reader import Astray, Reader
from letterhouse.rows import is_letter, is_name
from letterhouse.signs import is_sign_byte, sign_of_byte
from letterhouse.times import DAY_MINUTES, day_name, read_ahead, read_clock, read_day

FIRST_FOLDER = "in"
MOST_NOTS = 4
MOST_BRACKETS = 4
NAMED_DEEDS = ("move", "copy", "mark", "unmark")
PLAIN_DEEDS = ("refuse", "stop")
ALWAYS = ("always", None)


class WrongWord(Exception):
    """With one of its words, counted from nought, a row is no beginning of a rule."""

    def __init__(self, at):
        super().__init__(f"word {at}")
        self.at = at


def rules_of(text):
    """The rules that a text tells: each its row, its facts and its deeds."""
    if not isinstance(text, str):
        raise BadRule(1, 1)
    rules = []
    for at, row in enumerate(text.split("\n")):
        if row == "" or row.startswith("#"):
            continue
        try:
            rules.append(read_rule(row))
        except WrongWord as stop:
            raise BadRule(at + 1, word_place(row, stop.at)) from None
    return rules


def word_place(row, at):
    """The place where a word of a row begins; the row's end where no word is left."""
    ahead = sum([len(word) + 1 for word in row.split(" ", at)[:at]])
    return min(ahead, len(row)) + 1


def read_rule(row):
    """The rule that a row tells."""
    words = row.split(" ")
    # An empty word is none of those that are looked for, so it stands for the end, and none is looked for behind it.
    words.append("")
    if words[0] != "if":
        raise WrongWord(0)
    facts, at = read_facts(words, 1, 0)
    if words[at] != "then":
        raise WrongWord(at)
    deeds, at = read_deeds(words, at + 1)
    if at < len(words) - 1:
        raise WrongWord(at)
    return row, facts, deeds


def read_facts(words, at, brackets):
    """Terms with or between, that stand in so many brackets, from a word on; and which word stands behind them."""
    terms = []
    facts = []
    while True:
        fact, at = read_fact(words, at, brackets)
        facts.append(fact)
        if words[at] != "and":
            terms.append(("and", tuple(facts)))
            if words[at] != "or":
                return ("or", tuple(terms)), at
            facts = []
        at += 1


def read_fact(words, at, brackets):
    """A fact that stands in so many brackets, from a word on; and which word stands behind it."""
    nots = 0
    while words[at] == "not" and nots < MOST_NOTS:
        nots += 1
        at += 1
    fact, at = read_plain_fact(words, at, brackets)
    while nots > 0:
        fact = ("not", fact)
        nots -= 1
    return fact, at


def read_plain_fact(words, at, brackets):
    """A fact without a not ahead of it, from a word on; and which word stands behind it."""
    word = words[at]
    match word:
        case "always":
            return ALWAYS, at + 1
        case "about" | "marked":
            if not is_name(words[at + 1]):
                raise WrongWord(at + 1)
        case "from" | "to":
            if not is_address(words[at + 1]):
                raise WrongWord(at + 1)
        case "before":
            return (word, read_minute(words, at + 1)), at + 5
        case "(" if brackets < MOST_BRACKETS:
            facts, at = read_facts(words, at + 1, brackets + 1)
            if words[at] != ")":
                raise WrongWord(at)
            return facts, at + 1
        case _:
            raise WrongWord(at)
    return (word, words[at + 1]), at + 2


def read_minute(words, at):
    """The minute that the four words of a time tell, from a word on."""
    day = read_whole(read_day, words, at)
    if words[at + 1] != day_name(day):
        raise WrongWord(at + 1)
    clock = read_whole(read_clock, words, at + 2)
    return day * DAY_MINUTES + clock - read_whole(read_ahead, words, at + 3)


def read_whole(read, words, at):
    """What read reads of a word, sign by sign up to its end."""
    reader = Reader(words[at])
    try:
        found = read(reader)
        reader.end()
    except Astray:
        raise WrongWord(at) from None
    return found


def read_deeds(words, at):
    """Deeds with a comma and a blank between, each with its name or None, from a word on; and which stands behind."""
    deeds = []
    goes_on = True
    while goes_on:
        deed = words[at]
        if deed in NAMED_DEEDS:
            at += 1
            name = words[at].removesuffix(",")
            if not is_name(name):
                raise WrongWord(at)
        else:
            deed, name = deed.removesuffix(","), None
            if deed not in PLAIN_DEEDS:
                raise WrongWord(at)
        deeds.append((deed, name))
        goes_on = words[at].endswith(",")
        at += 1
    return tuple(deeds), at


def rules_text(rules):
    """The rows of rules, as they were told."""
    return "\n".join([row for row, _, _ in rules])


def sorted_by(rules, piece):
    """The folders and the marks that rules give to a letter, and whether they refuse it."""
    known = known_of(piece)
    folders = [FIRST_FOLDER]
    marks = [mark for some in said(piece, "marks") for mark in some]
    for _, facts, deeds in rules:
        if is_so(facts, known, marks) and end_all(deeds, folders, marks):
            break
    # Only a letter that is refused is in no folder.
    return sorted(folders), sorted(marks), folders == []


def end_all(deeds, folders, marks):
    """Do deeds by changing folders and marks, up to one with which all ends; tell whether there was one."""
    for word, name in deeds:
        match word:
            case "refuse":
                folders.clear()
                return True
            case "stop":
                return True
            case "move":
                folders.clear()
                folders.append(name)
            case "copy":
                put_in(folders, name)
            case "mark":
                put_in(marks, name)
            case _:
                take_out(marks, name)
    return False


def put_in(names, name):
    """Let a name stand among others, once alone."""
    if name not in names:
        names.append(name)


def take_out(names, name):
    """Let a name stand among others no more."""
    if name in names:
        names.remove(name)


def fits(rules, number, piece, marks):
    """Whether the facts of one of the rules, counted from nought, are so of a letter with these marks."""
    _, facts, _ = rules[number]
    return is_so(facts, known_of(piece), marks)


def is_so(fact, known, marks):
    """Whether a fact is so of a letter of which that is known, with these marks."""
    word, told = fact
    match word:
        case "or":
            return any([is_so(term, known, marks) for term in told])
        case "and":
            return all([is_so(part, known, marks) for part in told])
        case "not":
            return not is_so(told, known, marks)
        case "always":
            return True
        case "marked":
            return told in marks
        case "before":
            return any([minute < told for minute in known[word]])
        case _:
            return told in known[word]


def known_of(piece):
    """What rules may ask of a letter, by the words with which they do: all of which that is so, as keys of dicts."""
    receivers = addresses_among(piece, "to") + addresses_among(piece, "copy")
    return {
        "from": {address: True for address in addresses_among(piece, "from")},
        "to": {address: True for address in receivers},
        "about": {word: True for row in said(piece, "about") for word in words_of(row)},
        "before": {minute: True for minute, _ in said(piece, "date")},
    }


def addresses_among(piece, name):
    """The addresses of all people whom a piece's headers of a name tell, those in groups too."""
    people = [told for some in said(piece, name) for told in some]
    return [address for told in people for _, _, address in ones_of(told)]


def ones_of(told):
    """The ones of a group; of a one just that."""
    return told[2] if told[0] == "group" else [told]


def words_of(row):
    """The words of bytes, their letters small."""
    return "".join([small_letter(byte) for byte in row]).split()


def small_letter(byte):
    """The small letter of a byte; a blank of one that is no letter."""
    if is_sign_byte(byte) and is_letter(sign_of_byte(byte)):
        return sign_of_byte(byte).lower()
    return " "
