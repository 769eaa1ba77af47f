"""A text read sign by sign, up to the first one with which it is no beginning of a good one."""

FIGURES = "0123456789"


class Astray(Exception):
    """With the sign at a place, counted from 1, a text is no beginning of a good one."""

    def __init__(self, place):
        super().__init__(f"place {place}")
        self.place = place


class Reader:
    """A text, and how many of its signs are read. The end of all counts as a sign, but is none of those asked for."""

    def __init__(self, signs):
        self.signs = signs
        self.at = 0

    def sees(self, choice):
        """Whether the next sign is one of a choice."""
        return self.at < len(self.signs) and self.signs[self.at] in choice

    def sees_word(self, wanted):
        """Whether the next signs are those of a word."""
        return self.signs[self.at:self.at + len(wanted)] == wanted

    def one_of(self, choice):
        """The next sign, one of a choice."""
        if not self.sees(choice):
            raise Astray(self.at + 1)
        self.at += 1
        return self.signs[self.at - 1]

    def word(self, wanted):
        """Read the signs of a word."""
        if self.sees_word(wanted):
            self.at += len(wanted)
            return
        # One by one takes longer, and is wanted only to find the one that is wrong.
        for sign in wanted:
            self.one_of(sign)

    def run(self, choice, most):
        """The next signs as far as they are of a choice: one at least, and at most so many."""
        ahead = self.signs[self.at:self.at + most]
        many = len(ahead) - len(ahead.lstrip(choice))
        if many == 0:
            raise Astray(self.at + 1)
        self.at += many
        return ahead[:many]

    def run_ahead(self, choice):
        """The next signs, as far as they are of a choice, left to be read."""
        end = self.at
        while end < len(self.signs) and self.signs[end] in choice:
            end += 1
        return self.signs[self.at:end]

    def number(self, low, high):
        """The next number from low to high, these being texts of as many figures as it has."""
        # Texts of figures, all of the same length, stand in the order of their numbers.
        found = self.signs[self.at:self.at + len(low)]
        if len(found) < len(low) or found.strip(FIGURES) != "" or not low <= found <= high:
            self.refuse_number(low, high)
        self.at += len(low)
        return int(found)

    def refuse_number(self, low, high):
        """Raise Astray at the first of the next signs that is no figure of a number from low to high."""
        found = ""
        for many in range(1, len(low) + 1):
            found += self.one_of([sign for sign in FIGURES if low[:many] <= found + sign <= high[:many]])

    def end(self):
        """Read the end of all."""
        if self.at < len(self.signs):
            raise Astray(self.at + 1)
