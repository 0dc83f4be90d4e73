import itertools
import unittest

from sidebook.book import Book
from sidebook.errors import NoDeed, NoPot, NoStand
from sidebook.stands import comes_to

THIRTY_FIGURES = 10 ** 30 - 1
MOST_COIN = 10 ** 12
NO_WHOLE_NUMBERS = (True, False, None, "1", "", [1], [], (1,), (), {}, 1.0, b"1", object())

# pot 0: hands 0 and 1 with 60 and 40, wait 5; pot 1: hands 2 and 0 with 30 and 0, wait 2; pot 2: 1 and 3, wait 3
POTS = [(0, 1, 60, 40, 5), (2, 0, 30, 0, 2), (1, 3, 7, 8, 3)]
FIRST = (0, (60, 40), ())
# side 0 pays words 7 and 9, side 1 pays word 8
TIES = ((0, 5, 7, 12), (1, 20, 8, 20), (0, 30, 9, 30))
STAND = (3, (15, 30), TIES)
NO_POTS = (3, 4, -1, THIRTY_FIGURES, -THIRTY_FIGURES)
NO_SIDES = (2, -1, THIRTY_FIGURES, -THIRTY_FIGURES)
NO_WORDS = (60, -1, THIRTY_FIGURES, -THIRTY_FIGURES)
NO_HANDS = (4, -1, THIRTY_FIGURES, -THIRTY_FIGURES)
NO_STANDS = (
    None, 0, "", (), [], {}, list(STAND), (3, [15, 30], TIES), (3, (15, 30), list(TIES)), (3, (15, 30)),
    (10 ** 6 + 1, (60, 40), ()), (-1, (60, 40), ()), (True, (60, 40), ()), (0, (101, -1), ()),
    (1, (50, 40), ((0, 5, 7, 12), (1, 5, 7, 12))), (1, (60, 40), ((0, 0, 7, 12),)), object(),
)
OTHER_COIN = ((0, (60, 41), ()), (0, (59, 40), ()), (0, (60, 40), ((0, 1, 7, 12),)), (3, (15, 29), TIES))


def agree(pot=0, side=1, stand=STAND):
    return ("agree", pot, side, stand)


def strike(pot=0, side=0, number=3):
    return ("strike", pot, side, number)


def on_day(day, pots=None):
    book = Book(POTS if pots is None else pots)
    pass_days(book, day)
    return book


def pass_days(book, days):
    for _ in range(days):
        book.next_day()


def laid_on(day, side=0, stand=STAND):
    book = on_day(day)
    book.lay(0, side, stand, agree(0, 1 - side, stand))
    return book


def all_of(book):
    """All that the book tells, to be compared."""
    numbers = range(len(book.made_of()))
    return (
        book.today(), [book.told(pot) for pot in numbers], [book.shown_for(pot) for pot in numbers],
        [book.due_of(pot) for pot in numbers], [book.coin_of(hand) for hand in range(4)], book.is_over(),
        book.all_shown(), book.made_of(),
    )


class BookCase(unittest.TestCase):
    def check_refused(self, refusal, book, deed, *arguments):
        with self.subTest(deed=deed, arguments=arguments):
            ahead = all_of(book)
            with self.assertRaises(refusal) as caught:
                getattr(book, deed)(*arguments)
            self.assertIs(type(caught.exception), refusal)
            self.assertEqual(all_of(book), ahead)


class TestMade(unittest.TestCase):
    def check_no_pot(self, pots, number):
        with self.subTest(pots=pots):
            handed = list(pots)
            with self.assertRaises(NoPot) as caught:
                Book(handed)
            self.assertIs(type(caught.exception), NoPot)
            self.assertEqual(caught.exception.pot, number)
            self.assertIs(type(caught.exception.pot), int)
            self.assertEqual(handed, pots)

    def test_none_to_three_pots(self):
        for count in range(4):
            self.assertEqual(Book(POTS[:count]).made_of(), POTS[:count])

    def test_made_by_name(self):
        self.assertEqual(Book(pots=POTS).made_of(), POTS)

    def test_each_part_at_its_borders(self):
        for pot in (
            (0, 3, 60, 40, 5), (3, 0, 60, 40, 5), (1, 2, 60, 40, 5), (0, 1, 0, 40, 5), (0, 1, MOST_COIN, 40, 5),
            (0, 1, 60, 0, 5), (0, 1, 60, MOST_COIN, 5), (0, 1, 60, 40, 1), (0, 1, 60, 40, 100), (0, 1, 0, 0, 1),
            (0, 1, MOST_COIN, MOST_COIN, 100),
        ):
            with self.subTest(pot=pot):
                self.assertEqual(Book([pot]).made_of(), [pot])

    def test_each_part_beyond_its_borders_and_of_other_kinds(self):
        right = (0, 1, 60, 40, 5)
        beyond = ((-1, 4), (-1, 4), (-1, MOST_COIN + 1), (-1, MOST_COIN + 1), (0, -1, 101))
        for part, bad_ones in enumerate(beyond):
            for bad in bad_ones + (THIRTY_FIGURES, -THIRTY_FIGURES) + NO_WHOLE_NUMBERS:
                wrong = right[:part] + (bad,) + right[part + 1:]
                self.check_no_pot([wrong], 0)
                self.check_no_pot([right, wrong], 1)
                self.check_no_pot([right, right, wrong], 2)

    def test_one_hand_twice(self):
        for hand in range(4):
            self.check_no_pot([(hand, hand, 60, 40, 5)], 0)
            self.check_no_pot([(0, 1, 60, 40, 5), (hand, hand, 60, 40, 5)], 1)

    def test_a_part_more_or_less(self):
        right = (0, 1, 60, 40, 5)
        for length in range(5):
            self.check_no_pot([right[:length]], 0)
        self.check_no_pot([right + (0,)], 0)
        self.check_no_pot([right + (5,), right], 0)

    def test_no_tuples(self):
        for wrong in ([0, 1, 60, 40, 5], None, True, 0, "", "0 1 60 40 5", {}, [], (), object()):
            self.check_no_pot([wrong], 0)
            self.check_no_pot([(0, 1, 60, 40, 5), wrong], 1)

    def test_more_than_three(self):
        self.check_no_pot(POTS + [(0, 1, 60, 40, 5)], 3)
        self.check_no_pot(POTS + [None], 3)
        self.check_no_pot(POTS + [POTS[0]] * 2, 3)
        self.check_no_pot(POTS + [POTS[0]] * 97, 3)

    def test_four_of_which_some_are_none(self):
        right = (0, 1, 60, 40, 5)
        wrong = (1, 1, 60, 40, 5)
        for rightness in itertools.product((True, False), repeat=4):
            pots = [right if it_is else wrong for it_is in rightness]
            number = rightness.index(False) if False in rightness[:3] else 3
            self.check_no_pot(pots, number)

    def test_the_first_that_is_none(self):
        right = (0, 1, 60, 40, 5)
        self.check_no_pot([None, None, None], 0)
        self.check_no_pot([right, None, None], 1)
        self.check_no_pot([None, right, right], 0)

    def test_the_list_may_be_changed_behind_the_call(self):
        pots = list(POTS)
        book = Book(pots)
        pots[0] = None
        pots.append((0, 1, 1, 1, 1))
        self.assertEqual(book.made_of(), POTS)
        book.lay(0, 0, FIRST)
        self.assertEqual(book.told(0), ("laid", 0, FIRST, 0))
        self.assertEqual(pots, [None] + POTS[1:] + [(0, 1, 1, 1, 1)])

    def test_made_of_is_the_asker_s_own(self):
        book = Book(POTS)
        told = book.made_of()
        told.clear()
        self.assertEqual(book.made_of(), POTS)
        self.assertEqual(book.told(2), ("held",))


class TestDaysAndWords(BookCase):
    def test_days_go_on_by_one(self):
        book = Book([])
        for day in range(10):
            self.assertEqual(book.today(), day)
            self.assertIsNone(book.next_day())

    def test_at_first_all_is_held_and_nothing_shown(self):
        book = Book(POTS)
        for pot in range(3):
            self.assertEqual(book.told(pot), ("held",))
            self.assertEqual(book.shown_for(pot), {})
        self.assertEqual(book.all_shown(), [])

    def test_a_word_is_shown_for_one_pot_on_that_day(self):
        book = on_day(4)
        self.assertIsNone(book.show(1, 7))
        self.assertEqual([book.shown_for(pot) for pot in range(3)], [{}, {7: 4}, {}])

    def test_the_first_day_stays(self):
        book = on_day(4)
        book.show(1, 7)
        pass_days(book, 3)
        self.assertIsNone(book.show(1, 7))
        book.show(0, 7)
        self.assertEqual([book.shown_for(pot) for pot in range(3)], [{7: 7}, {7: 4}, {}])

    def test_a_word_shown_on_day_0_stays_so(self):
        book = on_day(0)
        book.show(0, 0)
        pass_days(book, 1)
        book.show(0, 0)
        self.assertEqual(book.shown_for(0), {0: 0})

    def test_shown_again_changes_nothing(self):
        book = laid_on(10)
        book.show(0, 8)
        pass_days(book, 5)
        ahead = all_of(book)
        book.show(0, 8)
        self.assertEqual(all_of(book), ahead)

    def test_words_at_their_borders(self):
        book = Book(POTS)
        book.show(0, 0)
        book.show(2, 59)
        self.assertEqual(book.shown_for(0), {0: 0})
        self.assertEqual(book.shown_for(2), {59: 0})

    def test_shown_whatever_the_claim_is(self):
        book = on_day(2)
        book.show(0, 1)
        book.lay(0, 0, STAND, agree())
        book.show(0, 2)
        book.strike(0, 1, strike())
        book.show(0, 3)
        pass_days(book, 50)
        book.show(0, 4)
        self.assertEqual(book.shown_for(0), {1: 2, 2: 2, 3: 2, 4: 52})

    def test_shown_for_is_the_asker_s_own(self):
        book = laid_on(0)
        book.show(0, 7)
        told = book.shown_for(0)
        told[8] = 0
        told[7] = 99
        self.assertEqual(book.shown_for(0), {7: 0})
        self.assertEqual(book.all_shown(), [7])
        pass_days(book, 5)
        self.assertEqual(book.due_of(0), (15, 35, 50))

    def test_all_shown_rises_each_once(self):
        book = Book(POTS)
        for pot, word in ((2, 30), (0, 59), (1, 30), (0, 4), (2, 0), (1, 59), (0, 30)):
            book.show(pot, word)
        self.assertEqual(book.all_shown(), [0, 4, 30, 59])

    def test_all_shown_of_all_words(self):
        book = Book(POTS)
        for word in reversed(range(60)):
            book.show(word % 3, word)
        self.assertEqual(book.all_shown(), list(range(60)))

    def test_all_shown_is_the_asker_s_own(self):
        book = Book(POTS)
        book.show(0, 5)
        book.all_shown().append(6)
        self.assertEqual(book.all_shown(), [5])
        self.assertEqual(book.shown_for(0), {5: 0})


class TestLay(BookCase):
    def test_the_first_stand_needs_no_agreement(self):
        for side in (0, 1):
            book = on_day(6)
            self.assertIsNone(book.lay(0, side, FIRST))
            self.assertEqual(book.told(0), ("laid", side, FIRST, 6))
            self.assertEqual(book.told(1), ("held",))

    def test_the_first_stand_with_any_agreement(self):
        for agreement in (None, agree(0, 1, FIRST), agree(0, 0, FIRST), agree(), agree(2, 1, FIRST), ("word", 7), 0,
                          "", [], object()):
            book = Book(POTS)
            book.lay(0, 0, FIRST, agreement)
            self.assertEqual(book.told(0), ("laid", 0, FIRST, 0))

    def test_another_stand_with_the_other_side_s_agreement(self):
        for side in (0, 1):
            book = on_day(3)
            self.assertIsNone(book.lay(0, side, STAND, agree(0, 1 - side)))
            self.assertEqual(book.told(0), ("laid", side, STAND, 3))

    def test_by_names(self):
        book = Book(POTS)
        book.lay(pot=0, side=0, stand=STAND, agreement=agree())
        book.strike(pot=0, side=1, thing=strike())
        book.show(pot=0, word=7)
        self.assertEqual(book.told(pot=0), ("taken", 1))
        self.assertEqual(book.shown_for(pot=0), {7: 0})
        self.assertEqual(book.due_of(pot=0), (0, 100, 0))
        self.assertEqual(book.coin_of(hand=1), 100)

    def test_each_pot_s_own_first_stand(self):
        book = Book(POTS)
        book.lay(1, 1, (0, (30, 0), ()))
        book.lay(2, 0, (0, (7, 8), ()))
        self.assertEqual([book.told(pot)[0] for pot in range(3)], ["held", "laid", "laid"])

    def test_stands_that_are_not_quite_the_first(self):
        for stand in ((1, (60, 40), ()), (0, (40, 60), ()), (0, (59, 41), ()), (0, (55, 40), ((0, 5, 7, 12),))):
            self.check_refused(NoDeed, Book(POTS), "lay", 0, 0, stand)
            book = Book(POTS)
            book.lay(0, 0, stand, agree(0, 1, stand))
            self.assertEqual(book.told(0), ("laid", 0, stand, 0))

    def test_stands_at_their_bounds(self):
        whole = 2 * MOST_COIN
        for stand in ((10 ** 6, (whole, 0), ()), (0, (0, whole), ()), (0, (MOST_COIN, MOST_COIN), ())):
            book = Book([(3, 2, MOST_COIN, MOST_COIN, 1)])
            book.lay(0, 1, stand, agree(0, 0, stand))
            self.assertEqual(book.told(0), ("laid", 1, stand, 0))
            pass_days(book, 1)
            self.assertEqual(book.due_of(0), stand[1] + (0,))

    def test_without_the_right_agreement(self):
        wrong = (
            None, agree(0, 0), agree(1, 1), agree(2, 1), agree(0, 1, FIRST), agree(0, 1, (2,) + STAND[1:]),
            agree(0, 1, (4,) + STAND[1:]), agree(0, 1, (3, (16, 29), TIES)), agree(0, 1, (3, (15, 30), TIES[::-1])),
            strike(0, 1), strike(0, 0), ("word", 7), ("agree", 0, 1), agree() + (0,), list(agree()),
            ("agree", False, 1, STAND), ("agree", 0, True, STAND), ("agree", 0, 1, list(STAND)),
            ("offer", 0, agree()), (agree(),), True, 0, 1, "", "agree", {}, [], (), STAND, object(),
        )
        for agreement in wrong:
            self.check_refused(NoDeed, Book(POTS), "lay", 0, 0, STAND, agreement)
        self.check_refused(NoDeed, Book(POTS), "lay", 0, 0, STAND)
        self.check_refused(NoDeed, Book(POTS), "lay", 0, 1, STAND, agree(0, 1))

    def test_the_agreement_of_a_stand_that_a_truth_would_equal(self):
        one = (1, (60, 40), ())
        self.check_refused(NoDeed, Book(POTS), "lay", 0, 0, one, ("agree", 0, 1, (True, (60, 40), ())))

    def test_a_pot_that_is_not_held(self):
        laid = Book(POTS)
        laid.lay(0, 0, STAND, agree())
        taken = Book(POTS)
        taken.lay(0, 0, STAND, agree())
        taken.strike(0, 1, strike())
        paid = Book(POTS)
        paid.lay(0, 0, FIRST)
        pass_days(paid, 20)
        for book in (laid, taken, paid):
            for side in (0, 1):
                self.check_refused(NoDeed, book, "lay", 0, side, FIRST)
                self.check_refused(NoDeed, book, "lay", 0, side, STAND, agree(0, 1 - side))

    def test_no_stand_at_all(self):
        for stand in NO_STANDS:
            for agreement in (None, agree(), ("agree", 0, 1, stand)):
                self.check_refused(NoStand, Book(POTS), "lay", 0, 0, stand, agreement)

    def test_a_stand_that_deals_out_another_coin(self):
        for stand in OTHER_COIN + ((0, (30, 0), ()), (0, (7, 8), ()), (0, (0, 0), ())):
            for agreement in (None, agree(0, 1, stand)):
                self.check_refused(NoStand, Book(POTS), "lay", 0, 0, stand, agreement)

    def test_no_stand_comes_ahead_of_no_deed(self):
        book = Book(POTS)
        book.lay(0, 0, STAND, agree())
        for stand in NO_STANDS + OTHER_COIN:
            self.check_refused(NoStand, book, "lay", 0, 1, stand)

    def test_what_is_out_of_its_bounds_comes_ahead_of_no_stand(self):
        for stand in (FIRST, STAND, None, OTHER_COIN[0]):
            for pot in NO_POTS:
                self.check_refused(NoDeed, Book(POTS), "lay", pot, 0, stand)
            for side in NO_SIDES:
                self.check_refused(NoDeed, Book(POTS), "lay", 0, side, stand)

    def test_a_refused_laying_may_be_done_rightly_later(self):
        book = Book(POTS)
        self.check_refused(NoDeed, book, "lay", 0, 0, STAND)
        self.check_refused(NoStand, book, "lay", 0, 0, None)
        book.lay(0, 0, STAND, agree())
        self.assertEqual(book.told(0), ("laid", 0, STAND, 0))


class TestStrike(BookCase):
    def test_the_other_side_with_that_strike(self):
        for side in (0, 1):
            book = laid_on(10, side)
            self.assertIsNone(book.strike(0, 1 - side, strike(0, side)))
            self.assertEqual(book.told(0), ("taken", 1 - side))

    def test_ahead_of_the_end_of_the_wait_alone(self):
        for day in range(5):
            book = laid_on(10)
            pass_days(book, day)
            book.strike(0, 1, strike())
            self.assertEqual(book.told(0), ("taken", 1))
        for day in (5, 6, 50):
            book = laid_on(10)
            pass_days(book, day)
            self.check_refused(NoDeed, book, "strike", 0, 1, strike())

    def test_each_pot_s_own_wait(self):
        one = (1, (20, 10), ())
        for days in (0, 1):
            book = on_day(4)
            book.lay(1, 0, one, agree(1, 1, one))
            pass_days(book, days)
            book.strike(1, 1, strike(1, 0, 1))
            self.assertEqual(book.told(1), ("taken", 1))
        book = on_day(4)
        book.lay(1, 0, one, agree(1, 1, one))
        pass_days(book, 2)
        self.check_refused(NoDeed, book, "strike", 1, 1, strike(1, 0, 1))

    def test_the_first_stand_may_be_struck(self):
        book = Book(POTS)
        book.lay(0, 1, FIRST)
        book.strike(0, 0, strike(0, 1, 0))
        self.assertEqual(book.told(0), ("taken", 0))

    def test_never_by_the_side_that_laid_it(self):
        for side in (0, 1):
            for thing in (strike(0, 0), strike(0, 1)):
                self.check_refused(NoDeed, laid_on(10, side), "strike", 0, side, thing)

    def test_never_with_all_else(self):
        for thing in (
            strike(0, 1), strike(1), strike(2), strike(0, 0, 2), strike(0, 0, 4), strike(0, 0, 0), agree(), agree(0, 0),
            ("word", 3), None, True, 0, 3, "", "strike", [], {}, (), list(strike()), strike() + (0,), strike()[:3],
            ("strike", False, 0, 3), ("strike", 0, False, 3), ("strike", 0, 0, 3.0), ("struck", 0, strike()), object(),
        ):
            self.check_refused(NoDeed, laid_on(10), "strike", 0, 1, thing)

    def test_held_and_taken_pots(self):
        held = Book(POTS)
        taken = laid_on(0)
        taken.strike(0, 1, strike())
        for book in (held, taken):
            for side in (0, 1):
                for thing in (strike(0, 0), strike(0, 1), strike(0, 0, 0), strike(0, 1, 0)):
                    self.check_refused(NoDeed, book, "strike", 0, side, thing)

    def test_another_pot_than_the_laid_one(self):
        book = laid_on(10)
        self.check_refused(NoDeed, book, "strike", 1, 1, strike(1))
        self.check_refused(NoDeed, book, "strike", 1, 1, strike(0))

    def test_other_pots_stay(self):
        book = laid_on(10)
        book.strike(0, 1, strike())
        self.assertEqual([book.told(pot) for pot in (1, 2)], [("held",), ("held",)])


class TestBounds(BookCase):
    def test_pots_that_the_book_has_not(self):
        for count in range(4):
            for pot in NO_POTS + tuple(range(count, 3)):
                book = Book(POTS[:count])
                for deed in ("told", "shown_for", "due_of"):
                    self.check_refused(NoDeed, book, deed, pot)
                self.check_refused(NoDeed, book, "show", pot, 7)
                self.check_refused(NoDeed, book, "lay", pot, 0, FIRST)
                self.check_refused(NoDeed, book, "strike", pot, 1, strike())

    def test_sides(self):
        for side in NO_SIDES:
            self.check_refused(NoDeed, Book(POTS), "lay", 0, side, FIRST)
            self.check_refused(NoDeed, laid_on(0, 0), "strike", 0, side, strike(0, 0))
            self.check_refused(NoDeed, laid_on(0, 1), "strike", 0, side, strike(0, 1))

    def test_words(self):
        for word in NO_WORDS:
            self.check_refused(NoDeed, Book(POTS), "show", 0, word)
            self.check_refused(NoDeed, Book(POTS), "show", 3, word)

    def test_hands(self):
        for hand in NO_HANDS:
            self.check_refused(NoDeed, Book(POTS), "coin_of", hand)
            self.check_refused(NoDeed, Book([]), "coin_of", hand)

    def test_hands_at_their_borders(self):
        for hand in range(4):
            self.assertEqual(Book([]).coin_of(hand), 0)
            self.assertEqual(Book(POTS).coin_of(hand), 0)


class TestDue(BookCase):
    def test_of_a_held_pot_all_is_open(self):
        for day in (0, 1, 100):
            book = on_day(day)
            self.assertEqual([book.due_of(pot) for pot in range(3)], [(0, 0, 100), (0, 0, 30), (0, 0, 15)])

    def test_of_a_laid_pot_all_is_open_while_the_wait_lasts(self):
        book = laid_on(10)
        for word in (7, 8, 9):
            book.show(0, word)
        for _ in range(5):
            self.assertEqual(book.due_of(0), (0, 0, 100))
            book.next_day()
        self.assertEqual(book.due_of(0), (35, 65, 0))

    def test_day_by_day_with_no_word_shown(self):
        book = laid_on(10)
        due = {}
        for _ in range(25):
            due[book.today()] = book.due_of(0)
            book.next_day()
        for day in range(10, 15):
            self.assertEqual(due[day], (0, 0, 100))
        for day in range(15, 20):
            self.assertEqual(due[day], (20, 30, 50))
        for day in range(20, 30):
            self.assertEqual(due[day], (20, 50, 30))
        for day in range(30, 35):
            self.assertEqual(due[day], (50, 50, 0))

    def test_ties_shown_ahead_of_their_day_and_on_it(self):
        for shown_on, due in ((19, (40, 30, 30)), (20, (20, 50, 30)), (21, (20, 50, 30))):
            book = laid_on(10)
            pass_days(book, shown_on - 10)
            book.show(0, 8)
            self.assertEqual(book.due_of(0), due)
            pass_days(book, 29 - shown_on)
            self.assertEqual(book.due_of(0), due)

    def test_a_word_shown_ahead_of_the_laying(self):
        book = on_day(2)
        book.show(0, 8)
        pass_days(book, 20)
        book.lay(0, 0, STAND, agree())
        pass_days(book, 5)
        self.assertEqual(book.due_of(0), (40, 30, 30))

    def test_shown_in_time_and_again_too_late(self):
        book = on_day(19)
        book.show(0, 8)
        pass_days(book, 3)
        book.show(0, 8)
        book.lay(0, 0, STAND, agree())
        pass_days(book, 5)
        self.assertEqual(book.due_of(0), (40, 30, 30))

    def test_a_word_shown_for_another_pot(self):
        book = laid_on(10)
        book.show(1, 8)
        book.show(2, 7)
        pass_days(book, 5)
        self.assertEqual(book.due_of(0), (20, 30, 50))

    def test_of_a_taken_pot_all_is_due_to_who_took_it(self):
        for side in (0, 1):
            book = laid_on(10, side)
            book.show(0, 7)
            book.strike(0, 1 - side, strike(0, side))
            for _ in range(30):
                self.assertEqual(book.due_of(0), (100, 0, 0) if side == 1 else (0, 100, 0))
                book.next_day()

    def test_they_come_to_the_coin_and_never_grow_less(self):
        plans = itertools.product((None, 0, 10, 12, 14, 19), (None, 18, 19, 20, 21), (None, 15, 29, 30))
        for plan in plans:
            book = Book(POTS)
            ahead = (0, 0, 100)
            for day in range(35):
                if day == 10:
                    book.lay(0, 0, STAND, agree())
                for word, shown_on in zip((7, 8, 9), plan):
                    if shown_on == day:
                        book.show(0, word)
                due = book.due_of(0)
                self.assertEqual(sum(due), 100)
                self.assertGreaterEqual(due[0], ahead[0])
                self.assertGreaterEqual(due[1], ahead[1])
                ahead = due
                book.next_day()
            in_time = [tie[2] for tie, shown_on in zip(TIES, plan) if shown_on is not None and shown_on < tie[3]]
            self.assertEqual(ahead, comes_to(STAND, in_time) + (0,))

    def test_never_less_with_a_strike(self):
        book = laid_on(10)
        for day in range(10, 40):
            if day == 13:
                book.strike(0, 1, strike())
            due = book.due_of(0)
            self.assertEqual(due, (0, 0, 100) if day < 13 else (0, 100, 0))
            book.next_day()

    def test_it_tells_tuples_of_whole_numbers(self):
        book = laid_on(10)
        for _ in range(25):
            due = book.due_of(0)
            self.assertIs(type(due), tuple)
            self.assertEqual([type(part) for part in due], [int] * 3)
            book.next_day()


class TestCoinAndEnd(BookCase):
    def test_a_hand_s_coin_over_all_pots(self):
        book = Book(POTS)
        one = (1, (20, 10), ())
        book.lay(0, 0, FIRST)
        book.lay(1, 0, one, agree(1, 1, one))
        book.lay(2, 1, (0, (7, 8), ()))
        told = []
        for _ in range(6):
            told.append([book.coin_of(hand) for hand in range(4)])
            book.next_day()
        self.assertEqual(told, [
            [0, 0, 0, 0], [0, 0, 0, 0], [10, 0, 20, 0], [10, 7, 20, 8], [10, 7, 20, 8], [70, 47, 20, 8],
        ])

    def test_two_pots_of_the_same_hands(self):
        book = Book([(2, 3, 5, 6, 1), (3, 2, 70, 80, 1)])
        book.lay(0, 0, (0, (5, 6), ()))
        book.lay(1, 0, (0, (70, 80), ()))
        book.next_day()
        self.assertEqual([book.coin_of(hand) for hand in range(4)], [0, 0, 85, 76])

    def test_open_ties_are_no_hand_s_coin(self):
        book = laid_on(10)
        pass_days(book, 5)
        self.assertEqual((book.coin_of(0), book.coin_of(1)), (20, 30))
        pass_days(book, 15)
        self.assertEqual((book.coin_of(0), book.coin_of(1)), (50, 50))

    def test_taken(self):
        book = laid_on(10)
        book.strike(0, 1, strike())
        self.assertEqual([book.coin_of(hand) for hand in range(4)], [0, 100, 0, 0])

    def test_the_end_of_a_book_of_no_pots(self):
        self.assertIs(Book([]).is_over(), True)

    def test_a_pot_of_no_coin_has_nothing_open(self):
        self.assertIs(Book([(0, 1, 0, 0, 5)]).is_over(), True)
        self.assertIs(Book([(0, 1, 0, 0, 5), (0, 1, 0, 1, 5)]).is_over(), False)

    def test_the_end_is_where_nothing_is_open_in_any_pot(self):
        book = Book(POTS)
        book.lay(0, 0, STAND, agree())
        book.lay(1, 0, (0, (30, 0), ()))
        for _ in range(30):
            self.assertIs(book.is_over(), False)
            book.next_day()
        self.assertIs(book.is_over(), False)
        book.lay(2, 0, (0, (7, 8), ()))
        for _ in range(3):
            self.assertIs(book.is_over(), False)
            book.next_day()
        self.assertIs(book.is_over(), True)

    def test_an_open_tie_keeps_the_book_from_its_end(self):
        book = on_day(10, POTS[:1])
        book.lay(0, 0, STAND, agree())
        for _ in range(20):
            self.assertIs(book.is_over(), False)
            book.next_day()
        self.assertIs(book.is_over(), True)

    def test_a_taken_pot_is_at_its_end(self):
        book = on_day(10, POTS[:1])
        book.lay(0, 0, STAND, agree())
        book.strike(0, 1, strike())
        self.assertIs(book.is_over(), True)

    def test_a_word_shown_ends_it_sooner(self):
        book = on_day(10, POTS[:1])
        book.lay(0, 0, STAND, agree())
        for word in (7, 8, 9):
            book.show(0, word)
        pass_days(book, 4)
        self.assertIs(book.is_over(), False)
        pass_days(book, 1)
        self.assertIs(book.is_over(), True)

    def test_two_books_have_nothing_in_common(self):
        one = Book(POTS)
        two = Book(POTS)
        ahead = all_of(two)
        one.show(0, 7)
        one.lay(0, 0, FIRST)
        one.next_day()
        self.assertEqual(all_of(two), ahead)

    def test_asked_again_it_answers_the_same(self):
        book = laid_on(10)
        book.show(0, 7)
        pass_days(book, 6)
        self.assertEqual(all_of(book), all_of(book))


if __name__ == "__main__":
    unittest.main()
