import copy

from defaultswaps import texts as module
from defaultswaps.errors import BookError, TextError
from defaultswaps.texts import book_text, read_book
from tests import oracle, wrong
from tests.case import Case

EXAMPLE = (3, ((0, (), ()), (None, (0, 1), (2,)), (1, (), (0,))))
TEXT = "atoms 3\n0\nnone if 0 1 not 2\n1 not 0\n"


def hundred():
    return oracle.book_keeping(100, 7)


def longest():
    """100 rules with the longest lines there are for so many."""
    return (4, tuple(sorted(oracle.all_rules(4), key=lambda rule: len(oracle.book_text((4, (rule,)))))[-100:]))


def near_texts(text):
    """Texts with one character left out, put in, doubled or changed."""
    letters = " \n\t0123459-+.infot"
    found = set()
    for at in range(len(text) + 1):
        found.add(text[:at] + text[at + 1:])
        for letter in letters:
            found.add(text[:at] + letter + text[at:])
            found.add(text[:at] + letter + text[at + 1:])
    return sorted(found - {text})


class Interface(Case):
    def test_names_and_arguments(self):
        self.assert_interface(module, {"book_text": ["book"], "read_book": ["text"]})


class BookText(Case):
    def test_example(self):
        self.assertEqual(book_text(EXAMPLE), TEXT)

    def test_no_rules(self):
        for atoms in (1, 2, 3, 4):
            self.assertEqual(book_text((atoms, ())), f"atoms {atoms}\n")

    def test_forms_of_rules(self):
        for rule, line in (
            ((3, (), ()), "3"), ((None, (), ()), "none"), ((None, (1,), ()), "none if 1"),
            ((None, (), (0, 2)), "none not 0 2"), ((0, (0, 1, 2, 3), ()), "0 if 0 1 2 3"), ((2, (), (2,)), "2 not 2"),
            ((1, (0, 3), (1, 2)), "1 if 0 3 not 1 2"),
            ((None, (0, 1, 2, 3), (0, 1, 2, 3)), "none if 0 1 2 3 not 0 1 2 3"),
        ):
            self.assertEqual(book_text((4, (rule,))), f"atoms 4\n{line}\n")

    def test_in_the_order_of_the_book(self):
        self.assertEqual(book_text((2, ((1, (), ()), (0, (), ())))), "atoms 2\n1\n0\n")
        self.assertEqual(book_text((2, ((0, (), ()), (1, (), ())))), "atoms 2\n0\n1\n")

    def test_all_rules_and_many_books(self):
        books = [(4, (rule,)) for rule in oracle.all_rules(4)]
        for book in books + oracle.many_books() + oracle.settling_books() + [hundred(), longest()]:
            self.assertEqual(book_text(book), oracle.book_text(book))

    def test_hundred_rules(self):
        self.assertEqual(len(book_text(hundred()).splitlines()), 101)
        self.assertEqual(book_text(hundred()).count("\n"), 101)

    def test_book_error(self):
        for book in wrong.no_rulebooks():
            self.assert_error(BookError, book_text, book)


class ReadBook(Case):
    def test_example(self):
        self.assertEqual(read_book(TEXT), EXAMPLE)

    def test_each_text_of_book_text(self):
        books = [(4, (rule,)) for rule in oracle.all_rules(4)]
        for book in books + oracle.many_books() + oracle.settling_books() + [hundred(), longest()]:
            found = read_book(book_text(book))
            self.assertEqual(found, book)
            self.assertEqual(repr(found), repr(book))

    def test_every_text_that_is_nearly_one(self):
        read = 0
        for text in (
            TEXT, "atoms 1\n", "atoms 4\n3 if 0 2 not 1 3\nnone\n2 not 2\n", "atoms 2\nnone if 0\nnone not 0\n",
        ):
            for other in near_texts(text):
                book = oracle.read_book(other)
                if book is None:
                    self.assert_error(TextError, read_book, other)
                else:
                    self.assertEqual(read_book(other), book)
                    read += 1
        self.assertGreater(read, 30)

    def test_lines_moved_left_out_and_repeated(self):
        lines = TEXT.splitlines(keepends=True)
        for other in (
            lines[1:], lines[1:] + lines[:1], lines[:1] + lines, [*lines, "\n"], ["\n", *lines], [*lines, lines[1]],
            [*lines, lines[2]], [lines[0], "\n", *lines[1:]], [*lines, "atoms 3\n"], [],
        ):
            self.assert_error(TextError, read_book, "".join(other))
        self.assertEqual(read_book("".join(lines[:1])), (3, ()))
        self.assertEqual(read_book("".join([lines[0], *lines[:0:-1]])), (3, EXAMPLE[1][::-1]))

    def test_the_first_line(self):
        for text in (
            "", "\n", "0\n", "atoms\n", "atoms \n", "atoms 0\n", "atoms 5\n", "atoms 10\n", "atoms 02\n", "atoms +2\n",
            "atoms -2\n", "atoms 2 \n", " atoms 2\n", "atoms  2\n", "atoms\t2\n", "Atoms 2\n", "ATOMS 2\n", "atom 2\n",
            "atoms 2", "atoms 2\n\n", "atoms 2\r\n", "atoms two\n", "atoms 2 3\n", "atoms 2.0\n", "2\n", "atoms2\n",
            "atoms atoms 2\n", "none\n", "atoms none\n",
        ):
            self.assert_error(TextError, read_book, text)

    def test_lines_of_no_rules(self):
        for line in (
            "", " ", "0 ", " 0", "0  if 1", "0 if  1", "0 if 1 ", "0\tif 1", "0 if\t1", "0 if 1  not 2",
            "0 if 1 not 2 ", "0 if", "0 if ", "0 not", "0 not ", "0 if not 1", "0 if  not 1", "0 if 1 not",
            "0 not if 1", "0 not 1 if 2", "if 1", "not 1", "if", "not", " if 1", "none if", "None", "NONE",
            "none none", "none 0", "0 none", "0 1", "0 if 1 0", "0 if 1 1", "0 not 2 1", "0 not 1 1", "0 if 0 2 1",
            "3", "4", "0 if 3", "0 not 3", "0 if 0 3", "-1", "00", "01", "+1", "-0", "0 if 00", "0 if 01", "0 if +1",
            "0 if -1", "0 not 02", "0 if 1, 2", "0 if 1,2", "0 if 12", "0 if none", "0 not none", "0 if 1 if 2",
            "0 not 1 not 2", "0 if 1 not 2 not 2", "0 if 1 and 2", "0 IF 1", "0 If 1", "0 NOT 1", "0 if 1 not 2.",
            "0.", "1.0", "0 if 1 not 2 if 1", "(0, (), ())", "0if 1", "0 if1", "0 if 1not 2", "atoms 3", "x",
            "0 if x", "0 not x", "0 if 1 x",
        ):
            self.assert_error(TextError, read_book, f"atoms 3\n{line}\n")
            self.assert_error(TextError, read_book, f"atoms 3\n1\n{line}\n")
            self.assert_error(TextError, read_book, f"atoms 3\n{line}\n1\n")

    def test_atoms_that_there_are_not(self):
        for atoms in (1, 2, 3):
            for line in (f"{atoms}", f"0 if {atoms}", f"0 not {atoms}", f"none if 0 {atoms}"):
                self.assert_error(TextError, read_book, f"atoms {atoms}\n{line}\n")
                self.assertEqual(len(read_book(f"atoms {atoms + 1}\n{line}\n")[1]), 1)

    def test_line_feeds(self):
        for text in (
            "atoms 3\n0", "atoms 3\n0\n\n", "atoms 3\n\n0\n", "\natoms 3\n0\n", "atoms 3 0\n", "atoms 3\n0\n1",
        ):
            self.assert_error(TextError, read_book, text)
        for feed in ("\r\n", "\r", "\x0b", "\x0c", "\x1c", "\x85", "\u2028", "\n\r"):
            self.assert_error(TextError, read_book, TEXT.replace("\n", feed))
            self.assert_error(TextError, read_book, TEXT.replace("\n", feed, 2))

    def test_two_equal_rules(self):
        self.assert_error(TextError, read_book, "atoms 2\n0\n0\n")
        self.assert_error(TextError, read_book, "atoms 2\nnone if 0\n1\nnone if 0\n")
        self.assert_error(TextError, read_book, TEXT + "1 not 0\n")

    def test_hundred_rules_and_one_more(self):
        text = book_text(hundred())
        self.assertEqual(read_book(text), hundred())
        more = next(rule for rule in oracle.all_rules(4) if rule not in hundred()[1])
        self.assert_error(TextError, read_book, text + oracle.book_text((4, (more,)))[8:])
        self.assert_error(TextError, read_book, text + text[8:])
        self.assert_error(TextError, read_book, oracle.book_text((4, tuple(oracle.all_rules(4)[:101]))))

    def test_long_texts(self):
        for text in (
            "0" * 4000, "\n" * 4000, " " * 4000, "atoms 4\n" + "0\n" * 1990, "atoms 4\n" + "0 if" + " 0" * 1990,
        ):
            self.assert_error(TextError, read_book, text)

    def test_digits_of_other_scripts(self):
        for digit in "\u00b2\u0662\uff12":
            self.assert_error(TextError, read_book, f"atoms {digit}\n")
            self.assert_error(TextError, read_book, f"atoms 4\n{digit}\n")
            self.assert_error(TextError, read_book, f"atoms 4\n0 if {digit}\n")

    def test_values_that_are_no_texts(self):
        for thing in [*wrong.other_things(), EXAMPLE, TEXT.encode(), [TEXT], (TEXT,), TEXT.splitlines(), {TEXT: TEXT}]:
            if thing != "atoms 2\n":
                self.assert_error(TextError, read_book, thing)


class Calls(Case):
    def test_equal_calls_give_equal_results(self):
        for book in oracle.settling_books(5):
            self.assertEqual(book_text(copy.deepcopy(book)), book_text(book))
            self.assertEqual(read_book(book_text(book)), read_book(book_text(book)))

    def test_arguments_stay_as_they_are(self):
        for thing in ([2, []], (2, [[0, [], []]]), ["atoms 2\n"], {0: [1]}):
            kept = repr(thing)
            self.assert_error(BookError, book_text, thing)
            self.assert_error(TextError, read_book, thing)
            self.assertEqual(repr(thing), kept)
