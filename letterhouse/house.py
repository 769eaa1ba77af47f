"""The house: letters that came, with the folders and the marks that they have."""

from letterhouse.errors import BadName, NoFolder, NoLetter, Twice
from letterhouse.letters import id_of, letter_of, letter_text, minute_of
from letterhouse.rows import is_name
from letterhouse.rules import rules_of, sorted_by
from letterhouse.threads import thread_rows


class House:
    """Rules, letters by their addresses, and for each the folders and marks it has, as keys of dicts."""

    def __init__(self, rules=""):
        self._rules = rules_of(rules)
        self._letters = {}
        self._folders = {}
        self._marks = {}

    def come(self, text):
        """Sort a letter that comes; the folders it is in, none where it was refused."""
        letter = letter_of(text)
        address = id_of(letter)
        if address in self._letters:
            raise Twice("a letter of that address is there")
        return self._sort(address, letter)

    def _sort(self, address, letter):
        """Give a letter the folders and marks that the rules tell, or keep it no longer; its folders."""
        folders, marks, is_refused = sorted_by(self._rules, letter)
        if is_refused:
            self._forget(address)
        else:
            self._letters[address] = letter
            self._folders[address] = {name: True for name in folders}
            self._marks[address] = {name: True for name in marks}
        return folders

    def _forget(self, address):
        """Keep a letter no longer."""
        self._letters.pop(address, None)
        self._folders.pop(address, None)
        self._marks.pop(address, None)

    def move(self, address, folder, other):
        """Let a letter go from one folder to another one."""
        self._refuse_no_letter(address)
        refuse_no_name(folder)
        refuse_no_name(other)
        self._refuse_no_folder(address, folder)
        del self._folders[address][folder]
        self._folders[address][other] = True

    def drop(self, address, folder):
        """Let a letter be in a folder no more."""
        self._refuse_no_letter(address)
        refuse_no_name(folder)
        self._refuse_no_folder(address, folder)
        del self._folders[address][folder]
        if len(self._folders[address]) == 0:
            self._forget(address)

    def mark(self, address, name):
        """Give a letter a mark."""
        self._refuse_no_letter(address)
        refuse_no_name(name)
        self._marks[address][name] = True

    def unmark(self, address, name):
        """Take a mark from a letter."""
        self._refuse_no_letter(address)
        refuse_no_name(name)
        self._marks[address].pop(name, None)

    def folders(self, address):
        """The folders that a letter is in."""
        self._refuse_no_letter(address)
        return sorted(self._folders[address])

    def marks(self, address):
        """The marks that a letter has."""
        self._refuse_no_letter(address)
        return sorted(self._marks[address])

    def folder(self, name):
        """The addresses of the letters in a folder, by their minutes."""
        refuse_no_name(name)
        found = [address for address in self._letters if name in self._folders[address]]
        return [address for _, address in sorted([(minute_of(self._letters[address]), address) for address in found])]

    def names(self):
        """The folders that have letters."""
        return sorted({name for address in self._folders for name in self._folders[address]})

    def text(self, address):
        """A letter as it is written."""
        self._refuse_no_letter(address)
        return letter_text(self._letters[address])

    def threads(self, name):
        """The rows of the threads of the letters in a folder."""
        return thread_rows([self._letters[address] for address in self.folder(name)])

    def renew(self, rules):
        """Have other rules from now on, and sort all letters by them."""
        self._rules = rules_of(rules)
        for address, letter in list(self._letters.items()):
            self._sort(address, letter)

    def _refuse_no_letter(self, address):
        """Raise NoLetter of what is no letter's address."""
        # Not all that may be handed in can be asked for in a dict.
        if not isinstance(address, str) or address not in self._letters:
            raise NoLetter("no letter of that address is there")

    def _refuse_no_folder(self, address, folder):
        """Raise NoFolder where a letter is not in a folder."""
        if folder not in self._folders[address]:
            raise NoFolder("the letter is not in that folder")


def refuse_no_name(name):
    """Raise BadName of what is no name."""
    if not is_name(name):
        raise BadName("no name")
