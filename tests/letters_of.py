"""Letters that several tests hand in."""

from letterhouse.letters import letter_of

FRIDAY = "2031-04-04 Fri 09:00 +0000"


def text_of(address, *headers, sender="ann@h", date=FRIDAY, body=("Body: plain", "", "x")):
    """The text of a letter with some headers more."""
    return "\n".join([f"Id: <{address}>", f"From: <{sender}>", f"Date: {date}", *headers, *body])


def letter(address, *headers, **more):
    """A letter with some headers more."""
    return letter_of(text_of(address, *headers, **more))


def answering(address, *refers, answers=None):
    """A letter that refers to others, and answers one."""
    headers = ["Refers: " + "\n ".join(f"<{other}>" for other in refers)] if refers else []
    return letter(address, *headers, *([f"Answers: <{answers}>"] if answers else []))
