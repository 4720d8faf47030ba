"""Books: tight puzzles of one kind, with names, no two of them turned into one another, and their texts."""

from onefilling.entries import Entries, check_name, check_tight_givens, checked_book, entries_and_wrong, is_book_form
from onefilling.entries import MOST_ENTRIES
from onefilling.errors import Alike, InvalidBook, InvalidName, InvalidText
from onefilling.writing import check_end, ended, is_number, kind_in, kind_length, kind_rows, rows_of, text_of


def is_book(value):
    """Whether the value, whatever it is, is a book."""
    return is_book_form(value) and entries_and_wrong(value)[1] is None


def with_puzzle(book, name, givens):
    """The book with this entry."""
    entries = checked_book(book)
    check_name(name)
    check_tight_givens(entries, givens)
    if entries.has_name(name):
        raise InvalidName(name)
    alike = entries.alike(givens)
    if alike is not None:
        raise Alike(alike)
    if len(book[1]) == MOST_ENTRIES:
        raise InvalidBook(None)
    return book[0], tuple(sorted(book[1] + ((name, givens),)))


def without(book, name):
    """The book without the entry of this name."""
    entries = checked_book(book)
    check_name(name)
    if not entries.has_name(name):
        raise InvalidName(name)
    return book[0], tuple([entry for entry in book[1] if entry[0] != name])


def book_text(book):
    """The text of a book."""
    checked_book(book)
    return text_of(kind_rows(book[0]) + [_entry_row(name, givens) for name, givens in book[1]])


def book_of(text):
    """The book of this text."""
    rows = rows_of(text)
    kind = kind_in(rows)
    entries = Entries(kind)
    at = kind_length(kind)
    while ended(rows, at) is not None:
        entry = _entry_in(rows[at])
        if entry is None or not entries.takes(entry):
            raise InvalidText(at)
        entries.put(entry)
        at += 1
    check_end(rows, at)
    return kind, tuple(entries.told)


def _entry_row(name, givens):
    return " ".join(["puzzle", name] + [f"{place}={worth}" for place, worth in givens])


def _entry_in(row):
    """The entry that this row tells, whether it may stand there or not; None."""
    words = row.split(" ")
    if len(words) < 2:
        return None
    givens = []
    for word in words[2:]:
        place, _, worth = word.partition("=")
        if not is_number(place) or not is_number(worth):
            return None
        givens.append((int(place), int(worth)))
    # Written anew it has to be this row: so there is just one text of it.
    return (words[1], tuple(givens)) if _entry_row(words[1], givens) == row else None
