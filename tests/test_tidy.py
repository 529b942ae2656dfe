import copy

from defaultswaps import tidy as module
from defaultswaps.errors import BookError, RuleError
from defaultswaps.rules import is_rulebook
from defaultswaps.tidy import counter, is_tidy, needless, tidy
from tests import oracle, wrong
from tests.case import Case

# "0, but not if 0" and "nothing without 0": the same pairs fit both rules.
TWINS = (1, ((0, (), (0,)), (None, (), (0,))))


def books():
    return oracle.many_books() + oracle.settling_books()


def hundreds():
    """Rulebooks of 100 rules that leave more or fewer sets."""
    kept = [(), ((0, 1), (0, 2)), ((0, 1), (0, 2), (1, 2, 3)), ((), (0,), (1, 2), (0, 1, 2, 3))]
    return [oracle.book_keeping(100, seed, *sets) for seed, sets in enumerate(kept)]


class Interface(Case):
    def test_names_and_arguments(self):
        self.assert_interface(module, {
            "counter": ["book", "rule"], "needless": ["book"], "tidy": ["book"], "is_tidy": ["book"],
        })


class Counter(Case):
    def test_ordinary_rules(self):
        book = (2, ((0, (), ()),))
        self.assertIsNone(counter(book, (0, (1,), ())))
        self.assertIsNone(counter(book, (0, (), (1,))))
        self.assertIsNone(counter(book, (None, (), (0,))))
        self.assertEqual(counter(book, (1, (), ())), ((0,), (0,)))
        self.assertEqual(counter(book, (1, (), (0,))), None)
        self.assertEqual(counter(book, (None, (1,), ())), ((0,), (0, 1)))
        self.assertEqual(counter((2, ((0, (), (1,)),)), (0, (), ())), ((), (0, 1)))

    def test_no_rules_in_the_book(self):
        self.assertEqual(counter((1, ()), (0, (), ())), ((), ()))
        self.assertEqual(counter((1, ()), (None, (0,), ())), ((), (0,)))
        self.assertIsNone(counter((1, ()), (0, (0,), ())))

    def test_a_rule_of_the_book_itself(self):
        for book in books():
            for rule in book[1][:10]:
                self.assertIsNone(counter(book, rule))

    def test_all_books_and_rules_for_one_atom(self):
        for book in oracle.books_of_one_atom():
            for rule in oracle.all_rules(1):
                self.assertEqual(counter(book, rule), oracle.counter(book, rule))

    def test_search(self):
        answers = {True: 0, False: 0}
        for book in oracle.settling_books(12) + oracle.sample_books(4):
            rules = oracle.all_rules(book[0])
            for rule in rules[::1 + len(rules) // 90]:
                found = counter(book, rule)
                self.assertEqual(found, oracle.counter(book, rule))
                answers[found is None] += 1
        self.assertGreater(min(answers.values()), 500)

    def test_a_rule_follows_if_no_context_shows_a_difference(self):
        for book in oracle.books_of_one_atom()[::5]:
            for rule in oracle.all_rules(1):
                added = oracle.union(book, (1, (rule,)))
                same = all(
                    oracle.settled(oracle.union(book, context)) == oracle.settled(oracle.union(added, context))
                    for context in oracle.books_of_one_atom()
                )
                self.assertIs(counter(book, rule) is None, same)

    def test_hundred_rules(self):
        for book in hundreds():
            for rule in oracle.all_rules(4)[::31]:
                self.assertEqual(counter(book, rule), oracle.counter(book, rule))

    def test_book_error_comes_first(self):
        for book in wrong.no_rulebooks():
            for rule in ((0, (), ()), None, [], (3, (), ())):
                self.assert_error(BookError, counter, book, rule)

    def test_rule_error(self):
        for rule in wrong.no_rules():
            self.assert_error(RuleError, counter, (3, ()), rule)
            self.assert_error(RuleError, counter, (3, ((0, (0, 1), (1,)), (None, (), ()))), rule)

    def test_rules_for_other_atoms(self):
        for atoms in (1, 2, 3):
            for rule in ((atoms, (), ()), (None, (atoms,), ()), (0, (), (atoms,)), (0, (0, atoms), (0,))):
                self.assert_error(RuleError, counter, (atoms, ((0, (), ()),)), rule)
                self.assertEqual(counter((atoms + 1, ()), rule), oracle.counter((atoms + 1, ()), rule))
        for rule in ((4, (), ()), (0, (4,), ()), (0, (), (0, 4)), (-1, (), ())):
            self.assert_error(RuleError, counter, (4, ()), rule)

    def test_lists_and_bools(self):
        rule = (1, (0,), (0, 1))
        self.assertIsNone(counter((2, ()), rule))
        for changed in wrong.with_lists(rule) + wrong.with_bools(rule):
            self.assert_error(RuleError, counter, (2, ()), changed)
            self.assert_error(RuleError, counter, (2, (rule,)), changed)


class Needless(Case):
    def test_ordinary_rulebooks(self):
        self.assertEqual(needless((2, ())), ())
        self.assertEqual(needless((2, ((0, (), ()),))), ())
        self.assertEqual(needless((2, ((0, (1,), ()), (0, (), ())))), ((0, (1,), ()),))
        self.assertEqual(needless((1, ((0, (0,), ()),))), ((0, (0,), ()),))

    def test_in_the_order_of_the_book(self):
        weak = ((0, (1,), ()), (0, (), (1,)), (None, (), (0,)), (1, (1,), ()))
        for order in (weak, weak[::-1], weak[2:] + weak[:2]):
            self.assertEqual(needless((2, ((0, (), ()), *order))), order)
            self.assertEqual(needless((2, (*order, (0, (), ())))), order)
            self.assertEqual(needless((2, (*order[:2], (0, (), ()), *order[2:]))), order)

    def test_two_rules_each_of_which_follows_from_the_rest(self):
        self.assertEqual(needless((2, ((0, (1,), ()), (1, (), ()), (0, (), ())))), ((0, (1,), ()), (0, (), ())))
        self.assertEqual(needless(TWINS), TWINS[1])
        self.assertEqual(needless((1, TWINS[1][::-1])), TWINS[1][::-1])
        for rule in TWINS[1]:
            self.assertEqual(needless((1, (rule,))), ())

    def test_a_rule_that_follows_only_from_several(self):
        book = (3, ((0, (1,), ()), (1, (2,), ()), (0, (2,), ())))
        self.assertEqual(needless(book), ((0, (2,), ()),))
        self.assertEqual(needless((3, book[1][1:])), ())
        self.assertEqual(needless((3, book[1][::2])), ())

    def test_search(self):
        for book in books():
            found = needless(book)
            self.assertEqual(found, oracle.needless(book))
            self.assertIs(type(found), tuple)

    def test_each_rule_against_counter(self):
        for book in oracle.settling_books(15):
            atoms, rules = book
            follow = [
                rule for rule in rules
                if counter((atoms, tuple(other for other in rules if other != rule)), rule) is None
            ]
            self.assertEqual(needless(book), tuple(follow))

    def test_hundred_rules(self):
        for book in hundreds():
            self.assertEqual(needless(book), oracle.needless(book))

    def test_book_error(self):
        for book in wrong.no_rulebooks():
            self.assert_error(BookError, needless, book)


class Tidy(Case):
    def test_nothing_to_leave_out(self):
        for book in (
            (1, ()), (4, ()), (2, ((0, (), ()),)), (2, ((0, (), (1,)), (1, (), (0,)))), (3, ((None, (), ()),)),
        ):
            self.assertEqual(tidy(book), book)
            self.assertIs(is_tidy(book), True)

    def test_the_first_needless_rule_is_left_out_first(self):
        self.assertEqual(tidy(TWINS), (1, (TWINS[1][1],)))
        self.assertEqual(tidy((1, TWINS[1][::-1])), (1, (TWINS[1][0],)))
        self.assertEqual(
            tidy((2, ((None, (), (0, 1)), (0, (), (0, 1))))), (2, ((0, (), (0, 1)),)),
        )

    def test_an_atom_is_left_out_only_if_no_rule_is_needless(self):
        # With an atom less, the second rule would make the first one needless.
        self.assertEqual(tidy((2, ((1, (), (1,)), (None, (), (0, 1))))), (2, ((1, (), (1,)),)))

    def test_an_atom_of_the_first_rule_where_it_is_possible(self):
        self.assertEqual(tidy((2, ((None, (0,), (1,)), (1, (), (0, 1))))), (2, ((None, (), (1,)),)))
        self.assertEqual(tidy((2, ((None, (), (0, 1)), (0, (1,), (0,))))), (2, ((None, (), (0,)),)))

    def test_the_least_atom_of_holds(self):
        around = ((1, (2,), ()), (2, (1,), ()))
        self.assertEqual(tidy((3, ((0, (1, 2), ()), *around))), (3, ((0, (2,), ()), *around)))
        self.assertEqual(tidy((3, (*around, (0, (1, 2), ())))), (3, (*around, (0, (2,), ()))))

    def test_the_least_atom_of_fails(self):
        around = ((1, (2,), ()), (2, (1,), ()))
        self.assertEqual(tidy((3, ((0, (), (1, 2)), *around))), (3, ((0, (), (2,)), *around)))

    def test_an_atom_of_holds_before_one_of_fails(self):
        # If 0 went first, the rule would end as (None, (1,), ()) instead, and the third one as (None, (), (0,)).
        book = (2, ((None, (1,), (0,)), (None, (), (0, 1)), (None, (0, 1), ())))
        self.assertEqual(tidy(book), (2, ((None, (), (0,)), (None, (1,), ()))))

    def test_what_becomes_needless_is_left_out_next(self):
        book = (2, ((None, (1,), (0,)), (None, (), (0, 1)), (None, (0, 1), ())))
        self.assertEqual(needless(book), ())
        self.assertEqual(oracle.tidy_steps(book), [
            book, (2, ((None, (), (0,)), *book[1][1:])), (2, ((None, (), (0,)), book[1][2])),
            (2, ((None, (), (0,)), (None, (1,), ()))),
        ])

    def test_the_rule_keeps_its_place(self):
        self.assertEqual(tidy((2, ((0, (1,), ()), (1, (), ())))), (2, ((0, (), ()), (1, (), ()))))
        self.assertEqual(tidy((2, ((1, (), ()), (0, (1,), ())))), (2, ((1, (), ()), (0, (), ()))))
        self.assertEqual(
            tidy((3, ((2, (), (1,)), (0, (1,), ()), (1, (), (0, 2)), (1, (2,), (0,)), (1, (), ())))),
            (3, ((0, (), ()), (1, (), ()))),
        )

    def test_a_rule_that_would_become_equal_to_another_one(self):
        # A rule with an atom less is never equal to another one that is left: it would be needless before.
        for book in ((2, ((0, (1,), ()), (0, (), ()))), (2, ((0, (), ()), (0, (), (1,))))):
            self.assertEqual(tidy(book), (2, ((0, (), ()),)))
        for book in books():
            for step in oracle.tidy_steps(book):
                self.assertIs(is_rulebook(step), True)

    def test_step_by_step(self):
        lengths = set()
        for book in books():
            steps = oracle.tidy_steps(book)
            for step in steps:
                self.assertEqual(tidy(step), steps[-1])
                self.assertIs(is_tidy(step), step == steps[-1])
            lengths.add(len(steps))
        self.assertGreater(len(lengths), 12)

    def test_every_order_of_the_choices_counts(self):
        """The rulebooks of the search are such that other orders of the steps would end elsewhere."""
        orders = {
            "last needless rule": lambda book: [
                (book[0], tuple(other for other in book[1] if other != rule)) for rule in oracle.needless(book)[::-1]
            ],
            "last atom": lambda book: without_an_atom(book)[::-1],
            "atom first": without_an_atom,
        }
        for name, found in orders.items():
            differ = 0
            for book in oracle.settling_books():
                other = book
                while found(other):
                    other = found(other)[0]
                differ += tidy(other) != tidy(book)
            self.assertGreater(differ, 0, name)

    def test_the_pairs_stay_the_same(self):
        for book in books() + hundreds():
            self.assertEqual(oracle.pairs(tidy(book)), oracle.pairs(book))

    def test_hundred_rules(self):
        for book in hundreds()[2:]:
            self.assertEqual(tidy(book), oracle.tidy_steps(book)[-1])
        for book in hundreds():
            self.assertIs(is_tidy(book), False)
            self.assertIs(is_tidy(tidy(book)), True)

    def test_all_tables_for_two_atoms(self):
        for table in oracle.tables(2):
            book = oracle.rules_of(2, table)
            self.assertEqual(tidy(book), oracle.tidy_steps(book)[-1])
            self.assertEqual(oracle.pairs(tidy(book)), table)

    def test_tidy_exactly_where_nothing_changes(self):
        answers = {True: 0, False: 0}
        for book in books():
            answer = is_tidy(book)
            self.assertIs(answer, tidy(book) == book)
            answers[answer] += 1
            self.assertIs(is_tidy(tidy(book)), True)
            self.assertEqual(tidy(tidy(book)), tidy(book))
        self.assertGreater(min(answers.values()), 10)

    def test_book_error(self):
        for book in wrong.no_rulebooks():
            self.assert_error(BookError, tidy, book)
            self.assert_error(BookError, is_tidy, book)


def without_an_atom(book):
    """All rulebooks with an atom less for which the same pairs fit, in the order of [60]."""
    atoms, rules = book
    found = [
        (atoms, (*rules[:at], shorter, *rules[at + 1:]))
        for at, rule in enumerate(rules) for shorter in oracle.with_an_atom_less(rule)
    ]
    return [other for other in found if len(set(other[1])) == len(rules) and oracle.pairs(other) == oracle.pairs(book)]


class Calls(Case):
    def test_equal_calls_give_equal_results(self):
        for book in oracle.settling_books(5):
            for function in (needless, tidy, is_tidy):
                self.assertEqual(function(copy.deepcopy(book)), function(book))
            rule = (0, (1,), ())
            self.assertEqual(counter(copy.deepcopy(book), (0, (1,), ())), counter(book, rule))

    def test_arguments_stay_as_they_are(self):
        for thing in ([2, []], (2, [[0, [], []]]), [0, [], []], {0: [1]}, (0, [1], [])):
            kept = repr(thing)
            for function in (needless, tidy, is_tidy):
                self.assert_error(BookError, function, thing)
            self.assert_error(BookError, counter, thing, thing)
            self.assert_error(RuleError, counter, (2, ()), thing)
            self.assertEqual(repr(thing), kept)
