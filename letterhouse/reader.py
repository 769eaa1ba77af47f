"""A text read sign by sign, or word by word, up to the first one with which it is no beginning of a good one."""

FIGURES = "0123456789"


class Astray(Exception):
    """With the sign at a place, counted from 1, a text is no beginning of a good one."""

    def __init__(self, place):
        super().__init__(f"place {place}")
        self.place = place


class Reader:
    """A text, and how many of its signs are read. The end of all counts as a sign, but is none of those asked for."""

    def __init__(self, signs):
        self.signs = signs
        self.at = 0

    def sees(self, choice):
        """Whether the next sign is one of a choice."""
        return self.at < len(self.signs) and self.signs[self.at] in choice

    def sees_word(self, wanted):
        """Whether the next signs are those of a word."""
        return self.signs[self.at:self.at + len(wanted)] == wanted

    def one_of(self, choice):
        """The next sign, one of a choice."""
        if not self.sees(choice):
            raise Astray(self.at + 1)
        self.at += 1
        return self.signs[self.at - 1]

    def word(self, wanted):
        """Read the signs of a word."""
        for sign in wanted:
            self.one_of(sign)

    def run(self, choice, most):
        """The next signs as far as they are of a choice: one at least, and at most so many."""
        found = self.one_of(choice)
        while len(found) < most and self.sees(choice):
            found += self.one_of(choice)
        return found

    def run_ahead(self, choice):
        """The next signs, as far as they are of a choice, left to be read."""
        end = self.at
        while end < len(self.signs) and self.signs[end] in choice:
            end += 1
        return self.signs[self.at:end]

    def number(self, low, high):
        """The next number from low to high, these being texts of as many figures as it has."""
        found = ""
        for many in range(1, len(low) + 1):
            # Texts of figures, all of the same length, stand in the order of their numbers.
            found += self.one_of([sign for sign in FIGURES if low[:many] <= found + sign <= high[:many]])
        return int(found)

    def end(self):
        """Read the end of all."""
        if self.at < len(self.signs):
            raise Astray(self.at + 1)


class Words:
    """A row of words with one blank between, how many of them are read, and the place where the next one begins."""

    def __init__(self, row):
        self.words = row.split(" ")
        self.at = 0
        self.place = 1

    def sees(self, *choice):
        """Whether the next word is one of a choice."""
        return self.at < len(self.words) and self.words[self.at] in choice

    def one_of(self, *choice):
        """The next word, one of a choice."""
        if not self.sees(*choice):
            raise Astray(self.place)
        word = self.words[self.at]
        self.go_on()
        return word

    def whole(self, read):
        """What read reads of the next word, sign by sign up to its end."""
        self.refuse_end()
        reader = Reader(self.words[self.at])
        try:
            found = read(reader)
            reader.end()
        except Astray:
            raise Astray(self.place) from None
        self.go_on()
        return found

    def go_on(self):
        """Step behind the next word."""
        self.place += len(self.words[self.at])
        self.at += 1
        # The end of the row stands one place behind its last sign, as a blank does that parts two words.
        if self.at < len(self.words):
            self.place += 1

    def refuse_end(self):
        """Raise Astray where no word is left."""
        if self.at == len(self.words):
            raise Astray(self.place)

    def end(self):
        """Read the end of the row."""
        if self.at < len(self.words):
            raise Astray(self.place)
