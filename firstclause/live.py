"""Books: lists of clauses that change, and whose changes can be taken back."""

from firstclause.checks import check_clause, check_lists, check_position, check_value
from firstclause.errors import NothingToUndo
from firstclause.forms import copied
from firstclause.least import least_missing
from firstclause.patterns import first_fitting


class Book:
    """A list of clauses of a kind.

    The lists that it holds now and held before are never changed themselves, so others may hold them, too.
    """

    def __init__(self, kinds, kind, clauses):
        check_lists(kinds, kind, [clauses])
        self.kinds = copied(kinds)
        self.kind = kind
        self.listed = copied(clauses)
        self.past = []

    def clauses(self):
        """The list of clauses now."""
        return copied(self.listed)

    def __len__(self):
        return len(self.listed)

    def label(self, value):
        """The label that the list gives a value, or None if no clause takes it."""
        check_value(self.kinds, self.kind, value)
        at = first_fitting(self.listed, value)
        return None if at is None else self.listed[at][1]

    def missing(self):
        """The first value that is missing, or None if none is."""
        return least_missing(self.kinds, self.kind, self.listed)

    def put(self, at, clause):
        """Put a clause ahead of the one at a position, or at the end if the position is the length."""
        check_position(len(self.listed) + 1, at)
        check_clause(self.kinds, self.kind, clause)
        self.change(self.listed[:at] + [copied(clause)] + self.listed[at:])

    def drop(self, at):
        """Take the clause at a position out and return one that is equal to it."""
        check_position(len(self.listed), at)
        clause = copied(self.listed[at])
        self.change(self.listed[:at] + self.listed[at + 1:])
        return clause

    def change(self, listed):
        """Hold another list from now on, until this is taken back."""
        self.past.append(self.listed)
        self.listed = listed

    def undo(self):
        """Take the last change back that has not been taken back."""
        if not self.past:
            raise NothingToUndo()
        self.listed = self.past.pop()

    def trial(self):
        """What a with statement takes for a block behind which everything is as it was ahead of it."""
        return Trial(self)

    def attempt(self, action):
        """Call a function with the book in a trial, and return what it returns."""
        with self.trial():
            return action(self)

    def copy(self):
        """An independent book with the same list and the same that can be undone."""
        other = Book(self.kinds, self.kind, self.listed)
        other.past = list(self.past)
        return other


class Trial:
    """A block behind which a book is again as it was when the block was entered."""

    def __init__(self, book):
        self.book = book
        self.listed = None
        self.past = None

    def __enter__(self):
        self.listed = self.book.listed
        self.past = list(self.book.past)
        return self.book

    def __exit__(self, kind, value, trace):
        book = self.book
        book.listed = self.listed
        book.past = self.past
