"""Rules: by which facts of a letter what is done with it."""

from letterhouse.errors import BadRule
from letterhouse.letters import said
from letterhouse.people import read_address
from letterhouse.reader import Astray, Words
from letterhouse.rows import NAME_LETTERS, SMALL, is_letter
from letterhouse.signs import is_sign_byte, sign_of_byte
from letterhouse.times import DAY_MINUTES, day_name, read_ahead, read_clock, read_day

FIRST_FOLDER = "in"
MOST_NOTS = 4
MOST_BRACKETS = 4
NAMED_DEEDS = ("move", "copy", "mark", "unmark")


def rules_of(text):
    """The rules that a text tells: each its row, its facts and its deeds."""
    if not isinstance(text, str):
        raise BadRule(1, 1)
    rules = []
    for at, row in enumerate(text.split("\n")):
        if row == "" or row.startswith("#"):
            continue
        try:
            rules.append(read_rule(row))
        except Astray as stop:
            raise BadRule(at + 1, stop.place) from None
    return rules


def read_rule(row):
    """The rule that a row tells."""
    words = Words(row)
    words.one_of("if")
    facts = read_facts(words, 0)
    words.one_of("then")
    deeds = read_deeds(words)
    words.end()
    return row, facts, deeds


def read_facts(words, brackets):
    """Terms with or between, that stand in so many brackets."""
    terms = [read_term(words, brackets)]
    while words.sees("or"):
        words.one_of("or")
        terms.append(read_term(words, brackets))
    return "or", tuple(terms)


def read_term(words, brackets):
    """Facts with and between, that stand in so many brackets."""
    facts = [read_fact(words, brackets)]
    while words.sees("and"):
        words.one_of("and")
        facts.append(read_fact(words, brackets))
    return "and", tuple(facts)


def read_fact(words, brackets):
    """A fact that stands in so many brackets."""
    nots = 0
    while nots < MOST_NOTS and words.sees("not"):
        words.one_of("not")
        nots += 1
    fact = read_plain_fact(words, brackets)
    for _ in range(nots):
        fact = ("not", fact)
    return fact


def read_plain_fact(words, brackets):
    """A fact without a not ahead of it."""
    if brackets < MOST_BRACKETS and words.sees("("):
        words.one_of("(")
        facts = read_facts(words, brackets + 1)
        words.one_of(")")
        return facts
    word = words.one_of("always", "from", "to", "about", "marked", "before")
    match word:
        case "always":
            return word, None
        case "from" | "to":
            return word, words.whole(read_address)
        case "before":
            return word, read_minute(words)
        case _:
            return word, words.whole(read_name)


def read_name(reader):
    """A name."""
    return reader.run(SMALL, NAME_LETTERS)


def read_minute(words):
    """The minute that the four words of a time tell."""
    day = words.whole(read_day)
    words.one_of(day_name(day))
    clock = words.whole(read_clock)
    return day * DAY_MINUTES + clock - words.whole(read_ahead)


def read_deeds(words):
    """Deeds with a comma and a blank between."""
    deed, goes_on = read_deed(words)
    deeds = [deed]
    while goes_on:
        deed, goes_on = read_deed(words)
        deeds.append(deed)
    return tuple(deeds)


def read_deed(words):
    """A deed and its name, None where it has none; and whether a comma stands behind it."""
    if words.sees(*NAMED_DEEDS):
        word = words.one_of(*NAMED_DEEDS)
        name, goes_on = words.whole(read_name_and_comma)
        return (word, name), goes_on
    word = words.one_of("refuse", "refuse,", "stop", "stop,")
    return (word.removesuffix(","), None), word.endswith(",")


def read_name_and_comma(reader):
    """A name, and whether a comma stands behind it."""
    name = read_name(reader)
    goes_on = reader.sees(",")
    if goes_on:
        reader.word(",")
    return name, goes_on


def rules_text(rules):
    """The rows of rules, as they were told."""
    return "\n".join([row for row, _, _ in rules])


def sorted_by(rules, piece):
    """The folders and the marks that rules give to a letter, and whether they refuse it."""
    known = known_of(piece)
    folders = [FIRST_FOLDER]
    marks = [mark for some in said(piece, "marks") for mark in some]
    for _, facts, deeds in rules:
        if is_so(facts, known, marks) and end_all(deeds, folders, marks):
            break
    # Only a letter that is refused is in no folder.
    return sorted(folders), sorted(marks), folders == []


def end_all(deeds, folders, marks):
    """Do deeds by changing folders and marks, up to one with which all ends; tell whether there was one."""
    for word, name in deeds:
        match word:
            case "refuse":
                folders.clear()
                return True
            case "stop":
                return True
            case "move":
                folders.clear()
                folders.append(name)
            case "copy":
                put_in(folders, name)
            case "mark":
                put_in(marks, name)
            case _:
                take_out(marks, name)
    return False


def put_in(names, name):
    """Let a name stand among others, once alone."""
    if name not in names:
        names.append(name)


def take_out(names, name):
    """Let a name stand among others no more."""
    if name in names:
        names.remove(name)


def fits(rules, number, piece, marks):
    """Whether the facts of one of the rules, counted from nought, are so of a letter with these marks."""
    _, facts, _ = rules[number]
    return is_so(facts, known_of(piece), marks)


def is_so(fact, known, marks):
    """Whether a fact is so of a letter of which that is known, with these marks."""
    word, told = fact
    match word:
        case "or":
            return any([is_so(term, known, marks) for term in told])
        case "and":
            return all([is_so(part, known, marks) for part in told])
        case "not":
            return not is_so(told, known, marks)
        case "always":
            return True
        case "marked":
            return told in marks
        case "before":
            return any([minute < told for minute in known[word]])
        case _:
            return told in known[word]


def known_of(piece):
    """What rules may ask of a letter, by the words with which they do: all of which that is so, as keys of dicts."""
    receivers = addresses_among(piece, "to") + addresses_among(piece, "copy")
    return {
        "from": {address: True for address in addresses_among(piece, "from")},
        "to": {address: True for address in receivers},
        "about": {word: True for row in said(piece, "about") for word in words_of(row)},
        "before": {minute: True for minute, _ in said(piece, "date")},
    }


def addresses_among(piece, name):
    """The addresses of all people whom a piece's headers of a name tell, those in groups too."""
    people = [told for some in said(piece, name) for told in some]
    return [address for told in people for _, _, address in ones_of(told)]


def ones_of(told):
    """The ones of a group; of a one just that."""
    return told[2] if told[0] == "group" else [told]


def words_of(row):
    """The words of bytes, their letters small."""
    return "".join([small_letter(byte) for byte in row]).split()


def small_letter(byte):
    """The small letter of a byte; a blank of one that is no letter."""
    if is_sign_byte(byte) and is_letter(sign_of_byte(byte)):
        return sign_of_byte(byte).lower()
    return " "
