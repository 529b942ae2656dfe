import copy
import inspect
import random

from defaultswaps import desk as module
from defaultswaps.desk import Desk
from defaultswaps.errors import BookError, MatchError, NothingError, RuleError
from defaultswaps.objects import Rules
from tests import oracle, wrong
from tests.case import Case

ZERO, ONE, TWO = (0, (), ()), (1, (), ()), (2, (), ())
BOOK = (3, ((0, (), (1,)), (None, (0, 1), (2,)), (1, (0,), ())))
FIRST, SECOND, THIRD = BOOK[1]
EVERY = tuple(oracle.all_rules(4))


class Broken(Exception):
    """Raised in blocks."""


def state(desk):
    return (desk.book, desk.changes, desk.settled)


class DeskCase(Case):
    def assert_refused(self, desk, error, function, *arguments):
        """The error is raised, and neither the book nor what can be taken back changes."""
        before = state(desk)
        self.assert_error(error, function, *arguments)
        self.assertEqual(state(desk), before)

    def assert_above_limit(self, desk, amount, function, *arguments):
        before = state(desk)
        self.assert_limit(amount, function, *arguments)
        self.assertEqual(state(desk), before)


class Interface(Case):
    def test_names_and_arguments(self):
        self.assertEqual(Desk.__module__, module.__name__)
        for name in ("book", "changes", "settled"):
            self.assertIsInstance(vars(Desk)[name], property)
        for name, arguments in (
            ("assign_book", "(self, book)"), ("add", "(self, rule)"), ("drop", "(self, rule)"), ("undo", "(self)"),
            ("swapped", "(self, other)"), ("supposing", "(self, *rules)"), ("settled_supposing", "(self, *rules)"),
            ("__init__", "(self, book)"),
        ):
            self.assertEqual(str(inspect.signature(vars(Desk)[name])), arguments)

    def test_changes_and_settled_cannot_be_assigned(self):
        desk = Desk(BOOK)
        for name in ("changes", "settled"):
            with self.assertRaises(AttributeError):
                setattr(desk, name, 1)


class Created(Case):
    def test_book_changes_and_settled(self):
        for book in oracle.many_books() + oracle.settling_books():
            desk = Desk(book)
            self.assertEqual(desk.book, book)
            self.assertEqual(desk.changes, 0)
            self.assertIs(type(desk.settled), tuple)
            self.assertEqual(desk.settled, oracle.settled(book))

    def test_book_error(self):
        for book in wrong.no_rulebooks():
            self.assert_error(BookError, Desk, book)
        self.assert_error(BookError, Desk, Rules(2))

    def test_desks_do_not_share_anything(self):
        one, other = Desk(BOOK), Desk(BOOK)
        one.add(TWO)
        self.assertEqual((other.book, other.changes), (BOOK, 0))
        with one.supposing(ZERO):
            self.assertEqual(other.book, BOOK)


class Add(DeskCase):
    def test_at_the_end(self):
        desk = Desk((3, ()))
        for at, rule in enumerate((TWO, ZERO, FIRST, ONE)):
            self.assertIsNone(desk.add(rule))
            self.assertEqual(desk.changes, at + 1)
        self.assertEqual(desk.book, (3, (TWO, ZERO, FIRST, ONE)))

    def test_every_rule(self):
        for atoms in (1, 2, 3):
            for rule in oracle.all_rules(atoms):
                desk = Desk((atoms, ((None, (), (0,)),)))
                if rule != (None, (), (0,)):
                    desk.add(rule)
                    self.assertEqual(desk.book, (atoms, ((None, (), (0,)), rule)))
                    self.assertEqual(desk.settled, oracle.settled(desk.book))

    def test_rule_error(self):
        desk = Desk(BOOK)
        desk.add(TWO)
        for rule in wrong.no_rules():
            self.assert_refused(desk, RuleError, desk.add, rule)
        for rule in (*BOOK[1], TWO):
            self.assert_refused(desk, RuleError, desk.add, rule)
        for atoms in (1, 2, 3):
            desk = Desk((atoms, ()))
            for rule in ((atoms, (), ()), (0, (atoms,), ()), (None, (), (0, atoms))):
                self.assert_refused(desk, RuleError, desk.add, rule)

    def test_a_bool_beside_the_equal_integer(self):
        desk = Desk((2, (ZERO,)))
        self.assert_refused(desk, RuleError, desk.add, (False, (), ()))
        self.assert_refused(desk, RuleError, desk.add, (True, (), ()))

    def test_limit_error_at_the_rule_after_hundred(self):
        desk = Desk((4, EVERY[:98]))
        desk.add(EVERY[98])
        desk.add(EVERY[99])
        self.assertEqual(desk.book, (4, EVERY[:100]))
        self.assert_above_limit(desk, 101, desk.add, EVERY[100])
        self.assert_above_limit(desk, 101, desk.add, EVERY[200])
        self.assert_refused(desk, RuleError, desk.add, EVERY[0])
        self.assert_refused(desk, RuleError, desk.add, None)
        desk.undo()
        desk.add(EVERY[100])
        self.assertEqual(desk.book, (4, (*EVERY[:99], EVERY[100])))


class Drop(DeskCase):
    def test_the_others_keep_their_order(self):
        for rule in BOOK[1]:
            desk = Desk(BOOK)
            self.assertIsNone(desk.drop(rule))
            self.assertEqual(desk.book, (3, tuple(other for other in BOOK[1] if other != rule)))
            self.assertEqual(desk.changes, 1)
            self.assertEqual(desk.settled, oracle.settled(desk.book))

    def test_until_none_is_left(self):
        desk = Desk(BOOK)
        for at, rule in enumerate((SECOND, THIRD, FIRST)):
            desk.drop(rule)
            self.assertEqual(len(desk.book[1]), 2 - at)
        self.assertEqual((desk.book, desk.changes, desk.settled), ((3, ()), 3, ((),)))

    def test_a_rule_that_comes_back_stands_at_the_end(self):
        desk = Desk(BOOK)
        desk.drop(FIRST)
        desk.add(FIRST)
        self.assertEqual(desk.book, (3, (SECOND, THIRD, FIRST)))

    def test_rule_error(self):
        desk = Desk(BOOK)
        desk.drop(THIRD)
        for rule in [*wrong.no_rules(), THIRD, ZERO, TWO, (3, (), ()), (0, (), (1, 2)), BOOK]:
            self.assert_refused(desk, RuleError, desk.drop, rule)
        for rule in (FIRST, SECOND):
            for changed in wrong.with_bools(rule) + wrong.with_lists(rule) + wrong.with_objects(rule):
                self.assert_refused(desk, RuleError, desk.drop, changed)
        empty = Desk((2, ()))
        self.assert_refused(empty, RuleError, empty.drop, ZERO)

    def test_hundred_rules(self):
        desk = Desk((4, EVERY[:100]))
        desk.drop(EVERY[50])
        self.assertEqual(desk.book, (4, EVERY[:50] + EVERY[51:100]))


class Assigned(DeskCase):
    def test_the_property(self):
        desk = Desk(BOOK)
        desk.book = (3, (ZERO,))
        self.assertEqual(state(desk), ((3, (ZERO,)), 1, ((0,),)))
        desk.book = (3, ())
        self.assertEqual(state(desk), ((3, ()), 2, ((),)))

    def test_the_method(self):
        desk = Desk(BOOK)
        self.assertIsNone(desk.assign_book((3, (ZERO,))))
        self.assertEqual(state(desk), ((3, (ZERO,)), 1, ((0,),)))

    def test_an_equal_book_counts(self):
        desk = Desk(BOOK)
        desk.book = copy.deepcopy(BOOK)
        self.assertEqual((desk.book, desk.changes), (BOOK, 1))
        desk.assign_book(desk.book)
        self.assertEqual((desk.book, desk.changes), (BOOK, 2))
        desk.undo()
        desk.undo()
        self.assertEqual((desk.book, desk.changes), (BOOK, 0))
        self.assert_refused(desk, NothingError, desk.undo)

    def test_book_error(self):
        desk = Desk(BOOK)
        desk.add(TWO)
        for book in wrong.no_rulebooks():
            self.assert_refused(desk, BookError, desk.assign_book, book)
            self.assert_refused(desk, BookError, setattr, desk, "book", book)

    def test_match_error(self):
        for atoms in (1, 2, 3, 4):
            desk = Desk((atoms, (ZERO,)))
            for others in (1, 2, 3, 4):
                if others != atoms:
                    for rules in ((), (ZERO,)):
                        self.assert_refused(desk, MatchError, desk.assign_book, (others, rules))
                        self.assert_refused(desk, MatchError, setattr, desk, "book", (others, rules))

    def test_book_error_comes_first(self):
        desk = Desk((2, ()))
        for book in ((5, ()), (1, (ONE,)), (3, (ZERO, ZERO)), (3, []), (4, EVERY)):
            self.assert_refused(desk, BookError, desk.assign_book, book)
            self.assert_refused(desk, BookError, setattr, desk, "book", book)


class Undo(DeskCase):
    def test_as_far_as_the_beginning(self):
        desk = Desk(BOOK)
        desk.add(TWO)
        desk.drop(FIRST)
        desk.book = (3, (ZERO,))
        desk.assign_book((3, (ZERO,)))
        expected = [(3, (ZERO,)), (3, (SECOND, THIRD, TWO)), (3, (*BOOK[1], TWO)), BOOK]
        for at, book in enumerate(expected):
            self.assertIsNone(desk.undo())
            self.assertEqual(state(desk), (book, 3 - at, oracle.settled(book)))
        self.assert_refused(desk, NothingError, desk.undo)
        self.assert_refused(desk, NothingError, desk.undo)

    def test_a_dropped_rule_is_again_in_its_place(self):
        for rule in BOOK[1]:
            desk = Desk(BOOK)
            desk.drop(rule)
            desk.undo()
            self.assertEqual(desk.book, BOOK)

    def test_an_undo_cannot_be_taken_back(self):
        desk = Desk(BOOK)
        desk.add(ZERO)
        desk.add(ONE)
        desk.undo()
        desk.undo()
        self.assertEqual((desk.book, desk.changes), (BOOK, 0))
        desk.add(TWO)
        self.assertEqual((desk.book, desk.changes), ((3, (*BOOK[1], TWO)), 1))
        desk.undo()
        self.assertEqual((desk.book, desk.changes), (BOOK, 0))

    def test_nothing_error_at_the_beginning(self):
        desk = Desk(BOOK)
        self.assert_refused(desk, NothingError, desk.undo)

    def test_refused_calls_are_not_taken_back(self):
        desk = Desk(BOOK)
        desk.add(TWO)
        self.assert_refused(desk, RuleError, desk.add, TWO)
        self.assert_refused(desk, RuleError, desk.drop, ZERO)
        self.assert_refused(desk, MatchError, desk.assign_book, (2, ()))
        desk.undo()
        self.assertEqual((desk.book, desk.changes), (BOOK, 0))

    def test_many_changes(self):
        source = random.Random(90)
        for atoms in (1, 2, 3):
            rules = oracle.all_rules(atoms)
            desk, past = Desk((atoms, ())), [(atoms, ())]
            for _ in range(400):
                kind, (_, there) = source.randrange(4), past[-1]
                if kind == 0 and len(past) > 1:
                    past.pop()
                    desk.undo()
                elif kind == 1 and there:
                    rule = source.choice(there)
                    past.append((atoms, tuple(other for other in there if other != rule)))
                    desk.drop(rule)
                elif kind == 2:
                    past.append((atoms, tuple(source.sample(rules, source.randrange(8)))))
                    desk.book = past[-1]
                elif len(there) < len(rules):
                    rule = source.choice([other for other in rules if other not in there])
                    past.append((atoms, (*there, rule)))
                    desk.add(rule)
                self.assertEqual((desk.book, desk.changes), (past[-1], len(past) - 1))
            self.assertGreater(len(past), 20)
            for book in past[-2::-1]:
                desk.undo()
                self.assertEqual(desk.book, book)
            self.assert_refused(desk, NothingError, desk.undo)


class Told(DeskCase):
    def test_settled_follows_the_book(self):
        desk = Desk((2, ()))
        self.assertEqual(desk.settled, ((),))
        desk.add((0, (), (1,)))
        self.assertEqual(desk.settled, ((0,),))
        desk.add((1, (), (0,)))
        self.assertEqual(desk.settled, ((0,), (1,)))
        desk.add((None, (), ()))
        self.assertEqual(desk.settled, ())
        desk.undo()
        self.assertEqual(desk.settled, ((0,), (1,)))

    def test_swapped(self):
        answers = set()
        for one, other in oracle.alike_books(6):
            desk = Desk(one)
            answer = desk.swapped(other)
            self.assertIs(answer, oracle.pairs(one) == oracle.pairs(other))
            self.assertEqual((desk.book, desk.changes), (one, 0))
            answers.add(answer)
        self.assertEqual(answers, {True, False})

    def test_swapped_asks_for_the_present_book(self):
        desk = Desk((2, (ZERO,)))
        self.assertIs(desk.swapped((2, (ZERO, (0, (1,), ())))), True)
        desk.add(ONE)
        self.assertIs(desk.swapped((2, (ZERO, (0, (1,), ())))), False)
        self.assertIs(desk.swapped((2, (ONE, (0, (1,), ())))), True)
        desk.undo()
        self.assertIs(desk.swapped((2, (ZERO,))), True)
        with desk.supposing(ONE):
            self.assertIs(desk.swapped((2, (ZERO,))), False)
            self.assertIs(desk.swapped((2, (ONE, ZERO))), True)

    def test_swapped_errors(self):
        desk = Desk(BOOK)
        for book in wrong.no_rulebooks():
            self.assert_refused(desk, BookError, desk.swapped, book)
        for atoms in (1, 2, 4):
            self.assert_refused(desk, MatchError, desk.swapped, (atoms, ()))
        self.assert_refused(desk, BookError, desk.swapped, (2, (TWO,)))

    def test_books_got_before_stay_as_they_were(self):
        desk = Desk(BOOK)
        got = [desk.book]
        desk.add(TWO)
        got.append(desk.book)
        desk.drop(FIRST)
        got.append(desk.book)
        desk.book = (3, ())
        with desk.supposing(ZERO):
            got.append(desk.book)
        desk.undo()
        self.assertEqual(got, [BOOK, (3, (*BOOK[1], TWO)), (3, (SECOND, THIRD, TWO)), (3, (ZERO,))])


class Supposing(DeskCase):
    def test_rules_stand_behind_the_others(self):
        desk = Desk(BOOK)
        with desk.supposing(TWO, ZERO) as held:
            self.assertIs(held, desk)
            self.assertEqual(desk.book, (3, (*BOOK[1], TWO, ZERO)))
            self.assertEqual(desk.settled, oracle.settled(desk.book))
        self.assertEqual((desk.book, desk.changes), (BOOK, 0))

    def test_rules_that_are_there_and_rules_given_twice(self):
        for given, behind in (
            ((FIRST,), ()), ((FIRST, TWO), (TWO,)), ((TWO, FIRST), (TWO,)), ((TWO, TWO), (TWO,)), ((), ()),
            ((ONE, TWO, ONE, SECOND, TWO, ZERO), (ONE, TWO, ZERO)), (BOOK[1], ()),
            ((THIRD, ZERO, THIRD, ZERO), (ZERO,)),
        ):
            desk = Desk(BOOK)
            with desk.supposing(*given):
                self.assertEqual(desk.book, (3, (*BOOK[1], *behind)))
            self.assertEqual((desk.book, desk.changes), (BOOK, 0))
            self.assertEqual(desk.settled_supposing(*given), oracle.settled((3, (*BOOK[1], *behind))))

    def test_the_call_alone_changes_nothing(self):
        desk = Desk(BOOK)
        desk.supposing(TWO)
        self.assertEqual((desk.book, desk.changes), (BOOK, 0))
        block = desk.supposing(ZERO)
        self.assertEqual(desk.book, BOOK)
        with block:
            self.assertEqual(desk.book, (3, (*BOOK[1], ZERO)))
        self.assertEqual(desk.book, BOOK)

    def test_the_changes_in_the_block(self):
        desk = Desk(BOOK)
        desk.add(TWO)
        with desk.supposing(ZERO):
            self.assertEqual(desk.changes, 1)
            desk.add(ONE)
            self.assertEqual((desk.book, desk.changes), ((3, (*BOOK[1], TWO, ZERO, ONE)), 2))
            desk.undo()
            self.assertEqual((desk.book, desk.changes), ((3, (*BOOK[1], TWO, ZERO)), 1))
            desk.drop(ZERO)
            self.assertEqual((desk.book, desk.changes), ((3, (*BOOK[1], TWO)), 2))
            desk.book = (3, ())
            self.assertEqual((desk.book, desk.changes), ((3, ()), 3))
        self.assertEqual((desk.book, desk.changes), ((3, (*BOOK[1], TWO)), 1))
        desk.undo()
        self.assertEqual((desk.book, desk.changes), (BOOK, 0))
        self.assert_refused(desk, NothingError, desk.undo)

    def test_undo_in_the_block_of_what_was_changed_before_it(self):
        desk = Desk(BOOK)
        desk.add(TWO)
        with desk.supposing(ZERO):
            desk.undo()
            self.assertEqual((desk.book, desk.changes), (BOOK, 0))
            self.assert_refused(desk, NothingError, desk.undo)
            desk.add(ONE)
        self.assertEqual((desk.book, desk.changes), ((3, (*BOOK[1], TWO)), 1))
        desk.undo()
        self.assertEqual((desk.book, desk.changes), (BOOK, 0))

    def test_nothing_to_undo_in_the_block(self):
        desk = Desk(BOOK)
        with desk.supposing(ZERO):
            self.assert_refused(desk, NothingError, desk.undo)

    def test_exceptions_in_the_block(self):
        for error in (Broken, RuleError, ValueError, KeyboardInterrupt):
            desk = Desk(BOOK)
            desk.add(TWO)
            with self.assertRaises(error):
                with desk.supposing(ZERO):
                    desk.add(ONE)
                    desk.drop(FIRST)
                    raise error()
            self.assertEqual((desk.book, desk.changes), ((3, (*BOOK[1], TWO)), 1))
        with self.assertRaises(NothingError):
            with Desk(BOOK).supposing(ZERO) as desk:
                desk.undo()
        self.assertEqual((desk.book, desk.changes), (BOOK, 0))

    def test_left_by_return_and_break(self):
        desk = Desk(BOOK)

        def told():
            with desk.supposing(TWO) as held:
                return held.settled

        self.assertEqual(told(), oracle.settled((3, (*BOOK[1], TWO))))
        for _ in range(2):
            with desk.supposing(ZERO):
                desk.add(ONE)
                break
        self.assertEqual((desk.book, desk.changes), (BOOK, 0))

    def test_nested_blocks(self):
        desk = Desk(BOOK)
        with desk.supposing(TWO):
            desk.drop(FIRST)
            with desk.supposing(ZERO, TWO, FIRST):
                self.assertEqual(desk.book, (3, (SECOND, THIRD, TWO, ZERO, FIRST)))
                desk.undo()
                desk.add(ONE)
                desk.add(ZERO)
                with desk.supposing():
                    desk.book = (3, ())
                self.assertEqual((desk.book, desk.changes), ((3, (*BOOK[1], TWO, ONE, ZERO)), 2))
            self.assertEqual((desk.book, desk.changes), ((3, (SECOND, THIRD, TWO)), 1))
        self.assertEqual((desk.book, desk.changes), (BOOK, 0))
        with desk.supposing(TWO), desk.supposing(ZERO):
            self.assertEqual(desk.book, (3, (*BOOK[1], TWO, ZERO)))
        self.assertEqual((desk.book, desk.changes), (BOOK, 0))

    def test_nested_blocks_and_an_exception(self):
        desk = Desk(BOOK)
        with desk.supposing(TWO):
            desk.add(ONE)
            with self.assertRaises(Broken):
                with desk.supposing(ZERO):
                    desk.undo()
                    raise Broken()
            self.assertEqual((desk.book, desk.changes), ((3, (*BOOK[1], TWO, ONE)), 1))
        self.assertEqual((desk.book, desk.changes), (BOOK, 0))

    def test_two_blocks_one_after_the_other(self):
        desk = Desk(BOOK)
        one, other = desk.supposing(ZERO), desk.supposing(ONE)
        with one:
            self.assertEqual(desk.book, (3, (*BOOK[1], ZERO)))
        with other:
            self.assertEqual(desk.book, (3, (*BOOK[1], ONE)))
        self.assertEqual((desk.book, desk.changes), (BOOK, 0))

    def test_rule_error_at_the_call(self):
        desk = Desk(BOOK)
        desk.add(TWO)
        for rule in wrong.no_rules():
            for function in (desk.supposing, desk.settled_supposing):
                self.assert_refused(desk, RuleError, function, rule)
                self.assert_refused(desk, RuleError, function, ZERO, rule)
                self.assert_refused(desk, RuleError, function, rule, rule)

    def test_limit_error_at_the_call(self):
        desk = Desk((4, EVERY[:98]))
        for function in (desk.supposing, desk.settled_supposing):
            self.assert_above_limit(desk, 101, function, *EVERY[98:101])
            self.assert_above_limit(desk, 101, function, *EVERY[97:101], EVERY[100], EVERY[0])
            self.assert_above_limit(desk, 150, function, *EVERY[:150])
            self.assert_above_limit(desk, len(EVERY), function, *EVERY)
            self.assert_above_limit(desk, 198, function, *EVERY[100:200], *EVERY[100:200])
        with desk.supposing(*EVERY[:100], *EVERY[:100]):
            self.assertEqual(desk.book, (4, EVERY[:100]))
            self.assert_above_limit(desk, 101, desk.add, EVERY[100])
            self.assert_above_limit(desk, 101, desk.supposing, EVERY[100])
            self.assert_above_limit(desk, 102, desk.settled_supposing, *EVERY[90:102])
        self.assertEqual(desk.book, (4, EVERY[:98]))

    def test_rule_error_comes_before_limit_error(self):
        desk = Desk((4, EVERY[:100]))
        for function in (desk.supposing, desk.settled_supposing):
            self.assert_refused(desk, RuleError, function, *EVERY, None)
            self.assert_refused(desk, RuleError, function, EVERY[100], (4, (), ()))
            self.assert_refused(desk, RuleError, function, EVERY[100], (False, (), ()))


class SettledSupposing(DeskCase):
    def test_what_settled_is_in_such_a_block(self):
        source = random.Random(91)
        for book in oracle.settling_books(12) + oracle.sample_books(5):
            desk = Desk(book)
            for many in (0, 1, 2, 5):
                if len(book[1]) + many <= 100:
                    rules = source.choices(oracle.telling_rules(book[0]), k=many)
                    found = desk.settled_supposing(*rules)
                    self.assertIs(type(found), tuple)
                    self.assertEqual((desk.book, desk.changes), (book, 0))
                    self.assertEqual(found, oracle.settled(oracle.union(book, (book[0], tuple(rules)))))
                    with desk.supposing(*rules):
                        self.assertEqual(desk.settled, found)

    def test_without_rules(self):
        for book in oracle.settling_books(5):
            self.assertEqual(Desk(book).settled_supposing(), oracle.settled(book))

    def test_inside_of_a_block(self):
        desk = Desk((2, ((0, (), (1,)),)))
        self.assertEqual(desk.settled_supposing(ONE), ((1,),))
        with desk.supposing((1, (), (0,))):
            self.assertEqual(desk.settled_supposing(ONE), ((1,),))
            self.assertEqual(desk.settled_supposing(ZERO), ((0,),))
            self.assertEqual(desk.settled_supposing((None, (1,), ())), ((0,),))
        self.assertEqual(desk.settled_supposing((None, (1,), ())), ((0,),))
        self.assertEqual(desk.settled, ((0,),))


class Calls(DeskCase):
    def test_equal_calls_give_equal_results(self):
        for book in oracle.settling_books(5):
            one, other = Desk(book), Desk(copy.deepcopy(book))
            self.assertEqual(state(one), state(other))
            self.assertEqual(state(one), state(one))
            self.assertEqual(one.settled_supposing(ZERO), other.settled_supposing(ZERO))
            self.assertIs(one.swapped(book), True)

    def test_arguments_stay_as_they_are(self):
        desk = Desk(BOOK)
        for thing in ([3, []], [0, [], []], (0, [], []), {0: [1]}, (3, [[0, [], []]])):
            kept = repr(thing)
            self.assert_refused(desk, RuleError, desk.add, thing)
            self.assert_refused(desk, RuleError, desk.drop, thing)
            self.assert_refused(desk, RuleError, desk.supposing, thing)
            self.assert_refused(desk, RuleError, desk.settled_supposing, thing)
            self.assert_refused(desk, BookError, desk.assign_book, thing)
            self.assert_refused(desk, BookError, desk.swapped, thing)
            self.assertEqual(repr(thing), kept)
