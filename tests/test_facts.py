import copy

from defaultswaps import facts as module
from defaultswaps.errors import BookError, MatchError, SetError
from defaultswaps.facts import compare_by_facts, kernel, settled_with, shows_by_facts
from defaultswaps.settled import settled
from defaultswaps.swaps import compare
from tests import oracle, wrong
from tests.case import Case

# The example of the overview.
ONE = (2, ((0, (), (1,)),))
OTHER = (2, ((0, (), ()),))
# Only the pair ((), (0, 1)) tells these two apart, and ((0,), (0, 1)) keeps it out of both kernels.
WIDE = oracle.rules_of(2, (((), (0, 1)), ((0,), (0, 1)), ((0, 1), (0, 1))))
NARROW = oracle.rules_of(2, (((0,), (0, 1)), ((0, 1), (0, 1))))


def books_for_two():
    return [oracle.rules_of(2, table) for table in oracle.tables(2)]


class Interface(Case):
    def test_names_and_arguments(self):
        self.assert_interface(module, {
            "kernel": ["book"], "compare_by_facts": ["one", "other"],
            "shows_by_facts": ["one", "other", "thing"], "settled_with": ["book", "facts"],
        })


class Kernel(Case):
    def test_ordinary_rulebooks(self):
        self.assertEqual(kernel(OTHER), (((0,), (0,)), ((0,), (0, 1)), ((0, 1), (0, 1))))
        self.assertEqual(
            kernel((2, ())),
            (
                ((), ()), ((), (0,)), ((), (1,)), ((0,), (0,)), ((0,), (0, 1)),
                ((0, 1), (0, 1)), ((1,), (0, 1)), ((1,), (1,)),
            ),
        )
        self.assertEqual(kernel(WIDE), (((0,), (0, 1)), ((0, 1), (0, 1))))
        self.assertEqual(kernel(NARROW), kernel(WIDE))
        self.assertEqual(kernel((1, ((None, (), ()),))), ())

    def test_smaller_sets_that_nothing_lies_between(self):
        # With 1 if 2 and 2 if 1 the empty set is next to (1, 2), two atoms away.
        book = (3, ((1, (2,), ()), (2, (1,), ()), (None, (0,), ())))
        self.assertEqual(kernel(book), (((), ()), ((), (1, 2)), ((1, 2), (1, 2))))

    def test_search(self):
        left_out = 0
        for book in oracle.many_books() + oracle.settling_books() + books_for_two():
            found = kernel(book)
            self.assertEqual(found, oracle.kernel(book))
            self.assertEqual(found, tuple(sorted(set(found))))
            left_out += len(found) < len(oracle.pairs(book))
        self.assertGreater(left_out, 50)

    def test_no_rules(self):
        for atoms in (1, 2, 3, 4):
            found = kernel((atoms, ()))
            self.assertEqual({len(y) - len(x) for x, y in found}, {0, 1})
            self.assertEqual(len(found), 2 ** atoms + atoms * 2 ** (atoms - 1))

    def test_book_error(self):
        for book in wrong.no_rulebooks():
            self.assert_error(BookError, kernel, book)


class CompareByFacts(Case):
    def test_example_of_the_overview(self):
        self.assertEqual(compare_by_facts(ONE, OTHER), ("differ", (1,), (0, 1)))
        self.assertEqual(compare_by_facts(OTHER, ONE), ("differ", (1,), (0, 1)))

    def test_same_although_they_cannot_be_swapped(self):
        self.assertEqual(compare_by_facts(WIDE, NARROW), ("same", (((0,), (0, 1)), ((0, 1), (0, 1)))))
        self.assertEqual(compare(WIDE, NARROW)[0], "differ")

    def test_the_least_chosen_before_the_least_facts(self):
        # Without facts (1,) is apart; (0, 1) is less, and apart only with the fact 0.
        one = (2, ((1, (), ()),))
        other = (2, ((None, (), (1,)),))
        self.assertIs(shows_by_facts(one, other, ("differ", (), (1,))), True)
        self.assertEqual(compare_by_facts(one, other), ("differ", (0,), (0, 1)))

    def test_the_least_facts(self):
        one = (2, ((0, (1,), ()), (1, (0,), ()), (None, (), (0,)), (None, (), (1,))))
        other = (2, ((None, (), (0,)), (None, (), (1,))))
        self.assertIs(shows_by_facts(one, other, ("differ", (1,), (0, 1))), True)
        self.assertEqual(compare_by_facts(one, other), ("differ", (0,), (0, 1)))
        self.assertEqual(compare_by_facts((2, ((1, (), ()),)), (2, ())), ("differ", (), ()))

    def test_all_tables_for_two_atoms(self):
        books = books_for_two()
        words = {"same": 0, "differ": 0}
        for one in books:
            for other in books:
                found = compare_by_facts(one, other)
                self.assertEqual(found, oracle.compare_by_facts(one, other))
                self.assertIs(found[0] == "same", kernel(one) == kernel(other))
                self.assertIs(shows_by_facts(one, other, found), True)
                words[found[0]] += one != other
        self.assertGreater(min(words.values()), 5, words)

    def test_search(self):
        words = set()
        for one, other in oracle.alike_books():
            found = compare_by_facts(one, other)
            self.assertEqual(found, oracle.compare_by_facts(one, other))
            words.add(found[0])
        self.assertEqual(words, {"same", "differ"})

    def test_same_exactly_if_all_facts_settle_the_same(self):
        for one, other in oracle.alike_books(5):
            alike = all(settled_with(one, chosen) == settled_with(other, chosen) for chosen in oracle.all_sets(one[0]))
            self.assertIs(compare_by_facts(one, other)[0] == "same", alike)

    def test_hundred_rules(self):
        one = oracle.book_keeping(100, 1, (0, 1), (0, 2))
        other = oracle.book_keeping(100, 2, (0, 1), (1, 2, 3))
        self.assertEqual(compare_by_facts(one, other), oracle.compare_by_facts(one, other))
        self.assertEqual(compare_by_facts(one, (4, one[1][::-1])), ("same", oracle.kernel(one)))


class ShowsByFacts(Case):
    def test_what_compare_by_facts_returns(self):
        for one, other in oracle.alike_books():
            self.assertIs(shows_by_facts(one, other, compare_by_facts(one, other)), True)

    def test_any_sets(self):
        answers = {True: 0, False: 0}
        for one, other in oracle.alike_books(8):
            sets = oracle.all_sets(one[0])
            for given in sets:
                for chosen in sets:
                    expected = oracle.differ(one, other, oracle.facts(one[0], given), chosen)
                    self.assertIs(shows_by_facts(one, other, ("differ", given, chosen)), expected)
                    answers[expected] += 1
        self.assertGreater(min(answers.values()), 200, answers)

    def test_same_only_with_the_kernel_of_both(self):
        found = kernel(WIDE)
        self.assertIs(shows_by_facts(WIDE, NARROW, ("same", found)), True)
        for changed in (found[1:], found[:1], found[::-1], found + found, (), (((), (0, 1)), *found), (found,)):
            self.assertIs(shows_by_facts(WIDE, NARROW, ("same", changed)), False, changed)
        for given in oracle.all_sets(2):
            for chosen in oracle.all_sets(2):
                self.assertIs(shows_by_facts(WIDE, NARROW, ("differ", given, chosen)), False)

    def test_same_for_rulebooks_that_differ(self):
        self.assertIs(shows_by_facts(ONE, OTHER, ("same", kernel(ONE))), False)
        self.assertIs(shows_by_facts(ONE, OTHER, ("same", kernel(OTHER))), False)
        # The pairs are not the kernel.
        self.assertIs(shows_by_facts(ONE, ONE, ("same", oracle.pairs(ONE))), False)
        self.assertIs(shows_by_facts(ONE, ONE, ("same", oracle.kernel(ONE))), True)

    def test_hundred_rules(self):
        one = oracle.book_keeping(100, 1, (0, 1), (0, 2))
        other = oracle.book_keeping(100, 2, (0, 1), (1, 2, 3))
        for given in oracle.all_sets(4):
            for chosen in oracle.all_sets(4):
                expected = oracle.differ(one, other, oracle.facts(4, given), chosen)
                self.assertIs(shows_by_facts(one, other, ("differ", given, chosen)), expected)

    def test_parts_that_are_no_sets(self):
        self.assertIs(shows_by_facts(ONE, OTHER, ("differ", (1,), (0, 1))), True)
        for thing in [*wrong.no_sets(), (0, 1, 2), (2,), (1, 0)]:
            self.assertIs(shows_by_facts(ONE, OTHER, ("differ", thing, (0, 1))), False, thing)
            self.assertIs(shows_by_facts(ONE, OTHER, ("differ", (1,), thing)), False, thing)

    def test_lists_and_bools(self):
        for one, other in ((ONE, OTHER), (WIDE, NARROW), (ONE, ONE), ((1, ()), (1, ()))):
            thing = compare_by_facts(one, other)
            self.assertIs(shows_by_facts(one, other, thing), True)
            for changed in wrong.with_bools(thing) + wrong.with_lists(thing):
                self.assertIs(shows_by_facts(one, other, changed), False, changed)

    def test_wrong_forms(self):
        for one, other in ((ONE, OTHER), (WIDE, NARROW)):
            thing = compare_by_facts(one, other)
            for changed in (
                (), thing[:1], thing[1:], thing[:-1], thing[::-1], (*thing, ()), (*thing, None), (thing,),
                (thing[0].upper(), *thing[1:]), (None, *thing[1:]), ("", *thing[1:]), (True, *thing[1:]),
                ("same", *thing[1:], thing[-1]), ("differ", thing[1]), ((thing[0],), *thing[1:]),
                ("differ ", *thing[1:]),
            ):
                self.assertIs(shows_by_facts(one, other, changed), False, changed)
        self.assertIs(shows_by_facts(ONE, OTHER, ("same", (1,), (0, 1))), False)
        # A rulebook stands in the place of the facts only in shows_compare.
        self.assertIs(shows_by_facts(ONE, OTHER, ("differ", (2, ((1, (), ()),)), (0, 1))), False)

    def test_values_of_other_kinds(self):
        for one, other in ((ONE, OTHER), (WIDE, NARROW)):
            for thing in [*wrong.other_things(), ()]:
                for changed in (
                    thing, ("same", thing), ("same", (thing,)), (thing, kernel(one)), (thing, (1,), (0, 1)),
                ):
                    self.assertIs(shows_by_facts(one, other, changed), False, changed)


class SettledWith(Case):
    def test_ordinary_rulebooks(self):
        self.assertEqual(settled_with(ONE, ()), ((0,),))
        self.assertEqual(settled_with(ONE, (1,)), ((1,),))
        self.assertEqual(settled_with(OTHER, (1,)), ((0, 1),))
        choice = (3, ((0, (), (1,)), (1, (), (0,)), (None, (0, 2), ())))
        self.assertEqual(settled_with(choice, ()), ((0,), (1,)))
        self.assertEqual(settled_with(choice, (2,)), ((1, 2),))
        self.assertEqual(settled_with(choice, (0, 2)), ())

    def test_search(self):
        for book in oracle.many_books() + oracle.settling_books():
            self.assertEqual(settled_with(book, ()), tuple(settled(book)))
            for given in oracle.all_sets(book[0]):
                found = settled_with(book, given)
                self.assertIs(type(found), tuple)
                self.assertEqual(found, oracle.settled(oracle.union(book, oracle.facts(book[0], given))))

    def test_facts_that_the_book_has(self):
        self.assertEqual(settled_with(OTHER, (0,)), ((0,),))
        self.assertEqual(settled_with((2, ((1, (), ()), (0, (), ()))), (0, 1)), ((0, 1),))

    def test_hundred_rules(self):
        for seed in range(4):
            book = oracle.book_keeping(100, seed, (0, 1), (0, 2), (1, 2, 3))
            self.assertEqual(settled_with(book, (0,)), ((0, 1), (0, 2)))
            self.assertEqual(settled_with(book, (1, 3)), ((1, 2, 3),))
            self.assertEqual(settled_with(book, (1, 2, 3)), ((1, 2, 3),))
            for given in oracle.all_sets(4):
                self.assertEqual(settled_with(book, given), oracle.settled(oracle.union(book, oracle.facts(4, given))))


class Errors(Case):
    def test_settled_with(self):
        for book in wrong.no_rulebooks():
            for given in ((), (0,), None, (3,), [0], (True,), (1, 0)):
                self.assert_error(BookError, settled_with, book, given)
        for given in wrong.no_sets():
            self.assert_error(SetError, settled_with, (3, ()), given)
            self.assert_error(SetError, settled_with, ONE, given)
        for atoms in (1, 2, 3):
            self.assert_error(SetError, settled_with, (atoms, ()), (atoms,))
            self.assertEqual(settled_with((atoms + 1, ()), (atoms,)), ((atoms,),))

    def test_book_error(self):
        for book in wrong.no_rulebooks():
            self.assert_error(BookError, compare_by_facts, book, ONE)
            self.assert_error(BookError, compare_by_facts, ONE, book)
            self.assert_error(BookError, compare_by_facts, book, book)
            self.assert_error(BookError, shows_by_facts, book, ONE, ("same", ()))
            self.assert_error(BookError, shows_by_facts, ONE, book, None)

    def test_match_error(self):
        for atoms in (1, 2, 3, 4):
            for others in (1, 2, 3, 4):
                if atoms != others:
                    self.assert_error(MatchError, compare_by_facts, (atoms, ()), (others, ()))
                    self.assert_error(MatchError, shows_by_facts, (atoms, ()), (others, ()), ("same", ()))

    def test_book_error_comes_first(self):
        self.assert_error(BookError, compare_by_facts, (5, ()), (2, ()))
        self.assert_error(BookError, compare_by_facts, (2, ()), (5, ()))
        self.assert_error(BookError, shows_by_facts, (2, ()), (3, ((3, (), ()),)), None)

    def test_shows_by_facts_raises_whatever_the_thing_is(self):
        for thing in wrong.other_things():
            self.assert_error(BookError, shows_by_facts, ONE, (0, ()), thing)
            self.assert_error(MatchError, shows_by_facts, ONE, (3, ()), thing)


class Calls(Case):
    def test_equal_calls_give_equal_results(self):
        for one, other in oracle.alike_books(3):
            first = compare_by_facts(one, other)
            self.assertIs(type(first), tuple)
            self.assertEqual(compare_by_facts(copy.deepcopy(one), copy.deepcopy(other)), first)
            self.assertEqual(kernel(copy.deepcopy(one)), kernel(one))
            self.assertEqual(settled_with(copy.deepcopy(one), (0,)), settled_with(one, (0,)))

    def test_arguments_stay_as_they_are(self):
        for thing in (["same", []], ("same", [[[], []]]), ("differ", [1], [0, 1]), ("differ", (1,), [0, 1]), {0: [1]}):
            kept = repr(thing)
            self.assertIs(shows_by_facts(ONE, OTHER, thing), False)
            self.assert_error(BookError, kernel, thing)
            self.assert_error(BookError, compare_by_facts, ONE, thing)
            self.assert_error(SetError, settled_with, ONE, thing)
            self.assertEqual(repr(thing), kept)
