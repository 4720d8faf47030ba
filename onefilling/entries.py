"""Entries of books: names with givens, of a kind, none of which is another one turned."""

from onefilling.errors import InvalidBook, InvalidName, InvalidPuzzle
from onefilling.forms import are_givens, is_kind_form, is_name
from onefilling.singles import are_tight
from onefilling.study import Study
from onefilling.turning import Keeping

MOST_ENTRIES = 60


class Entries:
    """Entries of a kind, one behind the other."""

    def __init__(self, kind):
        self.kind = kind
        self.study = Study(kind)
        self.keeping = Keeping(kind)
        self.told = []
        # For the least givens of each entry its name.
        self.names = {}

    def are_tight_givens(self, value):
        """Whether the value is givens of a tight puzzle."""
        return are_givens(self.kind, value) and are_tight(self.study, value)

    def alike(self, givens):
        """The name of the entry that a turn leads to these givens; None."""
        return self.names.get(self.keeping.least(givens)) if self.names else None

    def has_name(self, name):
        """Whether an entry has this name."""
        return any(entry[0] == name for entry in self.told)

    def takes(self, value):
        """Whether the value is an entry that may stand behind these."""
        if len(self.told) == MOST_ENTRIES or not isinstance(value, tuple) or len(value) != 2:
            return False
        name, givens = value
        # As names are unlike, entries ascend as their names do.
        if not is_name(name) or (self.told and name <= self.told[-1][0]):
            return False
        return self.are_tight_givens(givens) and self.alike(givens) is None

    def put(self, entry):
        """Put an entry behind these."""
        self.told.append(entry)
        self.names[self.keeping.least(entry[1])] = entry[0]


def is_book_form(value):
    """Whether the value is a pair of a kind and a tuple of up to 60 elements."""
    if not isinstance(value, tuple) or len(value) != 2 or not is_kind_form(value[0]):
        return False
    return isinstance(value[1], tuple) and len(value[1]) <= MOST_ENTRIES


def entries_and_wrong(book):
    """A pair for what has the form of a book: the entries ahead of the first wrong one, its index; None if none is."""
    entries = Entries(book[0])
    for at, entry in enumerate(book[1]):
        if not entries.takes(entry):
            return entries, at
        entries.put(entry)
    return entries, None


def checked_book(given):
    """The entries of a book, which is asked for."""
    if not is_book_form(given):
        raise InvalidBook(None)
    entries, wrong = entries_and_wrong(given)
    if wrong is not None:
        raise InvalidBook(wrong)
    return entries


def check_name(given):
    """A name is asked for."""
    if not is_name(given):
        raise InvalidName(given)


def check_tight_givens(entries, given):
    """Givens of a tight puzzle are asked for."""
    if not entries.are_tight_givens(given):
        raise InvalidPuzzle(given)
