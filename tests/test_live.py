"""Promises 90 to 92: books, whose changes can be taken back."""

import inspect
import unittest
from copy import deepcopy
from random import Random

from firstclause import live
from firstclause.clauses import label
from firstclause.errors import InvalidClause, InvalidClauses, InvalidKind, InvalidKinds, InvalidPosition, InvalidValue
from firstclause.errors import NothingToUndo
from firstclause.least import least_missing
from firstclause.live import Book
from tests.plain import any_clauses, any_pattern, turned
from tests.support import GARDEN, GARDEN_CLAUSES, GRID, MIXED, NEST, NO_CLAUSES, NO_COUNTS, ODD_OBJECTS
from tests.support import assert_each_wrong, assert_raises, assert_same, spoil, values_of_size

BOTH = [(("row", []), "none"), (("gap", [None], []), "some")]
ONE = [("from", 1, 1), ("from", 2, 2), ("from", 3, 3)]
NO_CLAUSE = ODD_OBJECTS + [
    [None, "a"], (None,), (None, "a", "b"), (None, "A"), (None, None), (None, ["a"]), (("from", 1, 2), "a"),
    (("maker", "leaf", (None,)), "a"), (("maker", "leaf", [{}]), "a"), ([], "a"), ({}, "a"), ("a", None)]


def clause(at):
    """One of some clauses of small numbers, all unlike."""
    return (ONE[at % 3], "abcdefghijklm"[at])


def small_book(many):
    return Book(GARDEN, "small", [clause(at) for at in range(many)])


def undo_all(book):
    """The lists that a book holds if all that can be undone is undone, step by step."""
    found = []
    while True:
        try:
            assert book.undo() is None
        except NothingToUndo:
            return found
        found.append(book.clauses())


def labels(book):
    return "".join(name for _, name in book.clauses())


class Examples(unittest.TestCase):
    def test_examples_of_the_document(self):
        book = Book(GARDEN, "list", BOTH)
        first = [book.missing(), book.drop(0), book.missing(), book.label([]), book.put(1, (("row", []), "empty")),
                 book.label([])]
        second = [book.undo(), len(book), book.undo(), book.label([]), book.attempt(lambda same: same.drop(1)),
                  len(book)]
        assert_same(self, [first, second],
                    [[None, (("row", []), "none"), [], None, None, "empty"],
                     [None, 1, None, "none", (("gap", [None], []), "some"), 2]])


class Interface(unittest.TestCase):
    def test_each_method_is_defined_in_the_class_with_its_arguments(self):
        methods = {"__init__": ["kinds", "kind", "clauses"], "clauses": [], "__len__": [], "label": ["value"],
                   "missing": [], "put": ["at", "clause"], "drop": ["at"], "undo": [], "trial": [],
                   "attempt": ["action"], "copy": []}
        self.assertEqual((Book.__module__, Book.__name__), (live.__name__, "Book"))
        for name, parameters in methods.items():
            self.assertEqual(list(inspect.signature(vars(Book)[name]).parameters)[1:], parameters)

    def test_by_name(self):
        book = Book(clauses=BOTH, kind="list", kinds=GARDEN)
        self.assertIsNone(book.put(clause=(("row", [None]), "one"), at=0))
        assert_same(self, [book.label(value=[1]), book.drop(at=1), book.attempt(action=len)], ["one", BOTH[0], 2])


class Lists(unittest.TestCase):
    def test_what_a_book_tells(self):
        random = Random(9)
        for kinds in (GARDEN, MIXED, GRID, NEST):
            for kind in kinds:
                clauses = any_clauses(random, kinds, kind, 2)
                book = Book(kinds, kind, clauses)
                assert_same(self, book.clauses(), clauses)
                assert_same(self, len(book), len(clauses))
                assert_same(self, book.missing(), least_missing(kinds, kind, clauses))
                for value in values_of_size(kinds, kind, 1) + values_of_size(kinds, kind, 3):
                    assert_same(self, book.label(value), label(kinds, kind, clauses, value))
                other = Book(turned(kinds), kind, clauses)
                assert_same(self, [other.clauses(), other.missing()], [book.clauses(), book.missing()])

    def test_an_empty_book(self):
        book = Book(GARDEN, "tree", [])
        assert_same(self, [book.clauses(), len(book), book.label(("leaf", 1)), book.missing()],
                    [[], 0, None, ("leaf", 1)])
        assert_raises(self, InvalidPosition, 0, book.drop, [0])
        self.assertIsNone(book.put(0, (None, "all")))
        assert_same(self, [book.clauses(), len(book), book.missing()], [[(None, "all")], 1, None])

    def test_put_at_0_in_between_and_at_the_length(self):
        for at, expected in ((0, "mabc"), (1, "ambc"), (2, "abmc"), (3, "abcm")):
            book = small_book(3)
            self.assertIsNone(book.put(at, (ONE[0], "m")))
            self.assertEqual(labels(book), expected)
            assert_same(self, len(book), 4)
            assert_same(self, book.label(1), "m" if at == 0 else "a")

    def test_drop_returns_an_equal_clause(self):
        for at, expected in ((0, "bc"), (1, "ac"), (2, "ab")):
            book = small_book(3)
            assert_same(self, book.drop(at), clause(at))
            self.assertEqual(labels(book), expected)
            assert_same(self, book.missing(), at + 1)
        book = Book(GARDEN, "list", BOTH + BOTH)
        assert_same(self, [book.drop(3), book.drop(0), book.clauses()], [BOTH[1], BOTH[0], [BOTH[1], BOTH[0]]])


class Independence(unittest.TestCase):
    """Lists that are changed later do not matter."""

    def told(self, book):
        return deepcopy([book.clauses(), len(book), book.label([1]), book.label([]), book.missing()])

    def test_lists_that_were_passed(self):
        kinds, clauses = deepcopy(GARDEN), [(("or", [("row", [("from", 1, 1)]), ("gap", [None], [None])]), "a")]
        more = (("gap", [], [("from", 3, None)]), "b")
        book = Book(kinds, "list", clauses)
        book.put(0, more)
        kept = self.told(book)
        for thing in (kinds, clauses, more):
            spoil(thing)
        assert_same(self, self.told(book), kept)
        book.undo()
        assert_same(self, book.clauses(), kept[0][1:])
        book.put(1, (("row", [("from", 1, 3)]), "c"))
        assert_same(self, book.missing(), [])

    def test_lists_that_were_returned(self):
        clauses = [(("row", [("from", 1, 1)]), "a"), (("or", [("gap", [None], [])]), "b")]
        book = Book(GARDEN, "list", clauses)
        kept = self.told(book)
        spoil(book.clauses())
        spoil(book.missing())
        assert_same(self, self.told(book), kept)
        spoil(book.drop(1))
        spoil(book.attempt(lambda same: same.drop(0)))
        book.undo()
        assert_same(self, self.told(book), kept)
        assert_same(self, clauses, kept[0])

    def test_books_do_not_share_lists(self):
        clauses = [(("row", [None]), "a")]
        one, other = Book(GARDEN, "list", clauses), Book(GARDEN, "list", clauses)
        one.put(0, (("row", []), "b"))
        assert_same(self, [len(one), len(other), clauses], [2, 1, [(("row", [None]), "a")]])
        self.assertRaises(NothingToUndo, other.undo)

    def test_each_call_returns_new_lists(self):
        book = Book(GARDEN, "list", BOTH)
        self.assertIsNot(book.clauses(), book.clauses())
        self.assertIsNot(book.clauses()[0][0][1], book.clauses()[0][0][1])


class Undo(unittest.TestCase):
    def test_step_by_step(self):
        book = small_book(2)
        book.put(1, clause(5))
        book.drop(0)
        book.put(2, clause(6))
        self.assertEqual(labels(book), "fbg")
        for expected in ("fb", "afb", "ab"):
            self.assertIsNone(book.undo())
            self.assertEqual(labels(book), expected)
        for _ in range(2):
            with self.assertRaises(NothingToUndo) as caught:
                book.undo()
            self.assertIs(type(caught.exception), NothingToUndo)
            self.assertEqual(labels(book), "ab")

    def test_changes_behind_an_undo(self):
        book = small_book(1)
        book.put(1, clause(1))
        book.undo()
        book.put(0, clause(2))
        book.drop(1)
        self.assertEqual([labels(book), book.undo(), labels(book), book.undo(), labels(book)],
                         ["c", None, "ca", None, "a"])
        self.assertRaises(NothingToUndo, book.undo)

    def test_a_hundred_changes(self):
        book = small_book(0)
        for at in range(50):
            book.put(at // 2, clause(at % 13))
        for at in range(50):
            book.drop((49 - at) // 2)
        self.assertEqual([len(lists) for lists in undo_all(book)], list(range(1, 51)) + list(range(49, -1, -1)))

    def test_what_only_tells_is_no_change(self):
        book = small_book(2)
        for told in (book.clauses(), book.missing(), book.label(1), len(book), book.copy(), book.trial()):
            del told
            self.assertRaises(NothingToUndo, book.undo)


class Trials(unittest.TestCase):
    def test_a_block_that_ends_in_order(self):
        book = small_book(2)
        with book.trial() as same:
            self.assertIs(same, book)
            same.put(0, clause(2))
            book.drop(1)
            self.assertEqual(labels(book), "cb")
        self.assertEqual(labels(book), "ab")
        self.assertRaises(NothingToUndo, book.undo)

    def test_without_a_name(self):
        book = small_book(2)
        book.drop(1)
        with book.trial():
            book.drop(0)
            assert_same(self, len(book), 0)
        self.assertEqual([labels(book), labels_of(undo_all(book))], ["a", ["ab"]])

    def test_a_block_that_ends_by_an_error(self):
        book = small_book(2)
        book.put(2, clause(2))
        error = KeyError("own")
        with self.assertRaises(KeyError) as caught:
            with book.trial():
                book.drop(0)
                raise error
        self.assertIs(caught.exception, error)
        self.assertEqual(labels(book), "abc")
        for odd, wrong in ((7, InvalidPosition), (True, InvalidPosition)):
            with self.assertRaises(wrong):
                with book.trial():
                    book.undo()
                    book.drop(odd)
        self.assertEqual([labels(book), labels_of(undo_all(book))], ["abc", ["ab"]])

    def test_a_block_that_is_left_by_return_and_break(self):
        book = small_book(2)

        def left():
            with book.trial():
                book.drop(0)
                return labels(book)

        self.assertEqual([left(), labels(book)], ["b", "ab"])
        for _ in range(2):
            with book.trial():
                book.put(0, clause(3))
                break
        self.assertEqual(labels(book), "ab")
        self.assertRaises(NothingToUndo, book.undo)

    def test_changes_from_ahead_of_the_block_taken_back_within_it(self):
        book = small_book(1)
        book.put(1, clause(1))
        book.put(2, clause(2))
        with book.trial():
            book.put(3, clause(3))
            self.assertEqual(labels_of(undo_all(book)), ["abc", "ab", "a"])
            self.assertRaises(NothingToUndo, book.undo)
            book.drop(0)
            assert_same(self, len(book), 0)
        self.assertEqual([labels(book), labels_of(undo_all(book))], ["abc", ["ab", "a"]])

    def test_nothing_to_undo_that_leaves_a_block(self):
        book = small_book(1)
        book.put(0, clause(1))
        with self.assertRaises(NothingToUndo):
            with book.trial():
                book.undo()
                book.undo()
        self.assertEqual([labels(book), labels_of(undo_all(book))], ["ba", ["a"]])

    def test_blocks_within_blocks(self):
        book = small_book(1)
        book.put(1, clause(1))
        with book.trial():
            book.put(2, clause(2))
            with book.trial() as inner:
                inner.drop(0)
                inner.undo()
                inner.undo()
                inner.undo()
                self.assertEqual(labels(book), "a")
            self.assertEqual(labels(book), "abc")
            book.undo()
            with self.assertRaises(ZeroDivisionError):
                with book.trial():
                    book.put(0, clause(4))
                    raise ZeroDivisionError
            self.assertEqual(labels(book), "ab")
            book.put(0, clause(5))
            self.assertEqual(labels_of(undo_all(book)), ["ab", "a"])
        self.assertEqual([labels(book), labels_of(undo_all(book))], ["ab", ["a"]])

    def test_ten_blocks_deep(self):
        book = small_book(0)

        def deeper(depth):
            with book.trial():
                book.put(0, clause(depth))
                if depth < 9:
                    self.assertEqual(book.attempt(lambda same: labels(same)), labels(book))
                    deeper(depth + 1)
                self.assertEqual(labels(book), "abcdefghij"[depth::-1])

        deeper(0)
        self.assertEqual(labels(book), "")
        self.assertRaises(NothingToUndo, book.undo)

    def test_blocks_one_after_the_other(self):
        book = small_book(2)
        for at in range(2, 5):
            with book.trial():
                book.put(2, clause(at))
                self.assertEqual(labels(book), ["abc", "abd", "abe"][at - 2])
            self.assertEqual(labels(book), "ab")

    def test_a_trial_that_is_not_used_for_a_block(self):
        book = small_book(2)
        unused = book.trial()
        book.drop(0)
        self.assertEqual(labels(book), "b")
        del unused
        self.assertEqual([labels(book), labels_of(undo_all(book))], ["b", ["ab"]])

    def test_the_beginning_is_when_the_block_is_entered(self):
        book = small_book(2)
        later = book.trial()
        book.drop(0)
        with later as same:
            self.assertIs(same, book)
            book.drop(0)
        self.assertEqual([labels(book), labels_of(undo_all(book))], ["b", ["ab"]])


def labels_of(lists):
    return ["".join(name for _, name in clauses) for clauses in lists]


class Attempts(unittest.TestCase):
    def test_the_very_object_is_returned(self):
        book = small_book(2)
        for thing in ([], {}, (), None, [[1]], object(), 10 ** 30, book):
            self.assertIs(book.attempt(lambda same: thing), thing)

    def test_the_book_itself_is_passed(self):
        book = small_book(2)
        self.assertIs(book.attempt(lambda same: same), book)
        seen = []
        self.assertIsNone(book.attempt(seen.append))
        self.assertIs(seen[0], book)

    def test_all_is_as_it_was(self):
        book = small_book(2)
        book.put(2, clause(2))

        def action(same):
            undo_all(same)
            same.put(0, clause(5))
            return labels(same)

        self.assertEqual(book.attempt(action), "fab")
        self.assertEqual([labels(book), labels_of(undo_all(book))], ["abc", ["ab"]])

    def test_an_action_that_raises(self):
        book = small_book(2)
        book.drop(0)
        error = ValueError("own")

        def action(same):
            same.drop(0)
            raise error

        with self.assertRaises(ValueError) as caught:
            book.attempt(action)
        self.assertIs(caught.exception, error)
        with self.assertRaises(InvalidPosition):
            book.attempt(lambda same: same.drop(1))
        self.assertEqual([labels(book), labels_of(undo_all(book))], ["b", ["ab"]])

    def test_attempts_within_blocks_and_attempts(self):
        book = small_book(1)
        with book.trial():
            book.put(1, clause(1))
            found = book.attempt(lambda same: [same.undo(), same.attempt(lambda again: again.drop(0)), labels(same),
                                               same.put(0, clause(2)), labels(same)])
            assert_same(self, found, [None, clause(0), "a", None, "ca"])
            self.assertEqual(labels(book), "ab")
            with self.assertRaises(NothingToUndo):
                book.attempt(lambda same: same.attempt(undo_twice))
            self.assertEqual([labels(book), labels_of(undo_all(book))], ["ab", ["a"]])
        self.assertEqual(labels(book), "a")
        self.assertRaises(NothingToUndo, book.undo)

    def test_blocks_within_attempts(self):
        book = small_book(1)

        def action(same):
            same.put(0, clause(1))
            with same.trial():
                same.drop(1)
            return labels(same)

        self.assertEqual([book.attempt(action), labels(book)], ["ba", "a"])


def undo_twice(book):
    book.undo()
    book.undo()


class Copies(unittest.TestCase):
    def test_a_copy_is_independent(self):
        book = small_book(2)
        book.put(2, clause(2))
        other = book.copy()
        self.assertIsNot(other, book)
        self.assertIsInstance(other, Book)
        book.drop(0)
        other.put(0, clause(5))
        self.assertEqual([labels(book), labels(other)], ["bc", "fabc"])
        self.assertEqual(labels_of(undo_all(other)), ["abc", "ab"])
        self.assertEqual([labels(book), labels_of(undo_all(book))], ["bc", ["abc", "ab"]])

    def test_the_same_kinds_and_kind(self):
        kinds = deepcopy(GARDEN)
        book = Book(kinds, "list", BOTH[:1])
        spoil(kinds)
        other = book.copy()
        assert_same(self, [other.missing(), other.label([]), other.clauses(), len(other)], [[1], "none", BOTH[:1], 1])
        value = [4]
        assert_raises(self, InvalidValue, value, other.label, [value])

    def test_copies_ahead_of_within_and_behind_a_block(self):
        book = small_book(1)
        book.put(1, clause(1))
        ahead = book.copy()
        with book.trial():
            book.drop(0)
            within = book.copy()
            book.put(0, clause(3))
            ahead.put(2, clause(4))
            within.put(1, clause(5))
        behind = book.copy()
        self.assertEqual([labels(each) for each in (ahead, within, behind, book)], ["abe", "bf", "ab", "ab"])
        self.assertEqual([labels_of(undo_all(each)) for each in (ahead, within, behind, book)],
                         [["ab", "a"], ["b", "ab", "a"], ["a"], ["a"]])

    def test_a_copy_in_a_block_is_not_taken_back(self):
        book = small_book(2)
        kept = []

        def action(same):
            same.drop(0)
            kept.append(same.copy())
            return kept[0]

        other = book.attempt(action)
        self.assertIs(other, kept[0])
        self.assertEqual([labels(other), labels(book), labels_of(undo_all(other))], ["b", "ab", ["ab"]])
        self.assertRaises(NothingToUndo, book.undo)

    def test_blocks_of_a_copy(self):
        book = small_book(2)
        with book.trial():
            book.drop(0)
            other = book.copy()
            with other.trial():
                other.drop(0)
                book.undo()
                self.assertEqual([len(book), len(other)], [2, 0])
            self.assertEqual([labels(book), labels(other)], ["ab", "b"])
        self.assertEqual([labels(book), labels(other)], ["ab", "b"])


class Model(unittest.TestCase):
    """Many calls at random, compared with a plain list and the lists ahead of its changes."""

    def play(self, random, book, now, past, depth):
        for _ in range(random.randint(1, 6)):
            chosen = random.randrange(9)
            if chosen < 3:
                at, more = random.randint(0, len(now)), (any_pattern(random, MIXED, "args", 2), random.choice("abc"))
                self.assertIsNone(book.put(at, more))
                past.append(list(now))
                now.insert(at, more)
            elif chosen < 5 and now:
                at = random.randrange(len(now))
                past.append(list(now))
                assert_same(self, book.drop(at), now.pop(at))
            elif chosen == 5 and past:
                self.assertIsNone(book.undo())
                now[:] = past.pop()
            elif chosen == 6 and not past:
                self.assertRaises(NothingToUndo, book.undo)
            elif chosen == 7 and depth < 4:
                with book.trial():
                    self.play(random, book, list(now), list(past), depth + 1)
            elif chosen == 8 and depth < 4:
                self.play(random, book.copy(), list(now), list(past), depth + 1)
            assert_same(self, [book.clauses(), len(book)], [now, len(now)])
        for value in ([], [("zip",)], [("end",), ("zip",)]):
            assert_same(self, book.label(value), label(MIXED, "args", now, value))
        assert_same(self, book.missing(), least_missing(MIXED, "args", now))

    def test_many_calls(self):
        for seed in range(60):
            random = Random(seed)
            clauses = any_clauses(random, MIXED, "args", 2)
            with self.subTest(seed=seed):
                past, now, book = [], list(clauses), Book(MIXED, "args", clauses)
                for _ in range(3):
                    self.play(random, book, now, past, 0)
                assert_same(self, undo_all(book), past[::-1])


class WrongArguments(unittest.TestCase):
    def test_book(self):
        assert_each_wrong(self, Book, [
            (GARDEN, ODD_OBJECTS + [{"tree": ("makers", [("m", ["tree"])])}], InvalidKinds),
            ("tree", [odd for odd in ODD_OBJECTS if odd != "tree"] + ["fork", {"list": 1}], InvalidKind),
            (GARDEN_CLAUSES, NO_CLAUSES + [BOTH], InvalidClauses)])

    def book(self):
        book = Book(GARDEN, "tree", GARDEN_CLAUSES[:2])
        book.put(0, GARDEN_CLAUSES[2])
        return book

    def assert_nothing_changed(self, book):
        assert_same(self, [book.clauses(), len(book)], [[GARDEN_CLAUSES[2]] + GARDEN_CLAUSES[:2], 3])
        assert_same(self, undo_all(book.copy()), [GARDEN_CLAUSES[:2]])

    def test_put(self):
        book = self.book()
        assert_each_wrong(self, book.put, [(1, NO_COUNTS + [4, 5, 10 ** 20], InvalidPosition),
                                           ((None, "a"), NO_CLAUSE, InvalidClause)])
        self.assert_nothing_changed(book)

    def test_drop(self):
        book = self.book()
        assert_each_wrong(self, book.drop, [(1, NO_COUNTS + [3, 4, 10 ** 20], InvalidPosition)])
        self.assert_nothing_changed(book)
        with book.trial():
            book.undo()
            assert_raises(self, InvalidPosition, 2, book.drop, [2])
            book.drop(1)
            assert_raises(self, InvalidPosition, 1, book.drop, [1])
        self.assert_nothing_changed(book)

    def test_label(self):
        book = self.book()
        assert_each_wrong(self, book.label, [
            (("leaf", 1), ODD_OBJECTS + [("leaf", 4), ("leaf", True), ["leaf", 1], ("leaf", [{}])], InvalidValue)])
        self.assert_nothing_changed(book)

    def test_errors_in_blocks_change_nothing(self):
        book = self.book()
        with book.trial():
            for at in NO_COUNTS:
                assert_raises(self, InvalidPosition, at, book.put, [at, (None, "a")])
                assert_raises(self, InvalidPosition, at, book.put, [at, at])
            for odd in NO_CLAUSE:
                assert_raises(self, InvalidClause, odd, book.put, [3, odd])
            self.assert_nothing_changed(book)
        self.assert_nothing_changed(book)


if __name__ == "__main__":
    unittest.main()
