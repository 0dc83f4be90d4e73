import unittest

from sidebook.book import Book
from sidebook.errors import BookError, NoDeed, NoSpan
from sidebook.keeper import Keeper
from sidebook.kept import kept, read_kept
from sidebook.letters import is_letter
from sidebook.worth import View, paper, stands_up, worth

EVERY = 3
# Hand 0 is left of pot 0 and right of pot 1, and in pot 2 it isn't.
POTS = [(0, 1, 60, 40, 5), (2, 0, 70, 30, 6), (1, 2, 10, 10, 4)]
MOST = 10 ** 12
NOTHING = (False, [])


def hand_of(words=(), pots=None, hand=0, every=EVERY):
    return Keeper(hand, every, list(POTS if pots is None else pots), list(words))


def values_of(account):
    return (
        account.pot, account.side, account.mine, account.grant, list(account.may), list(account.strikes),
        account.word(),
    )


def state_of(keeper):
    """All that can be asked of a hand, and its small book."""
    accounts = []
    for pot in range(3):
        try:
            accounts.append(values_of(keeper.account(pot)))
        except NoDeed:
            accounts.append(None)
    return (
        accounts, keeper.words(), keeper.looked(), keeper.given(), keeper.worth(), keeper.paper(), kept(keeper),
    )


def state_of_book(book):
    pots = range(len(book.made_of()))
    return (book.today(), [book.told(pot) for pot in pots], [book.shown_for(pot) for pot in pots])


def offer(pot, one):
    return ("offer", pot, ("agree", pot, 0, one))


def accept(pot, one):
    return ("accept", pot, ("agree", pot, 1, one), ("strike", pot, 1, one[0] - 1))


def struck(pot, number):
    return ("struck", pot, ("strike", pot, 0, number))


def answer_to(keeper, letter):
    """What an honest other side sends for a letter of this hand, or None."""
    pot = letter[1]
    if letter[0] == "offer":
        return accept(pot, letter[2][3])
    if letter[0] == "accept":
        return struck(pot, letter[3][3])
    if letter[0] == "ask":
        return offer(pot, (keeper.account(pot).mine[0] + 1, letter[2], letter[3]))
    return None


def play(keeper, letters):
    """An honest other side answers until nothing is sent any more."""
    letters = list(letters)
    while letters:
        answer = answer_to(keeper, letters.pop(0))
        if answer is not None:
            letters += keeper.take(answer)


def do(keeper, wish):
    taken, letters = keeper.wish(wish)
    if not taken:
        raise AssertionError("not taken: " + repr(wish))
    play(keeper, letters)


def come_to(keeper, pot, shares, ties=()):
    """The other side brings the hand to these shares and ties."""
    account = keeper.account(pot)
    one = (account.mine[0] + 1, shares, ties)
    if account.side == 0:
        play(keeper, keeper.take(("ask", pot, shares, ties)))
    else:
        play(keeper, keeper.take(offer(pot, one)))
    if keeper.account(pot).mine != one or keeper.account(pot).word() != "calm":
        raise AssertionError("the hand didn't come to it")


def on_day(day, pots=None):
    book = Book(POTS if pots is None else pots)
    go_to(book, day)
    return book


def go_to(book, day):
    while book.today() < day:
        book.next_day()


class KeeperTest(unittest.TestCase):
    def check_nothing(self, keeper, wish):
        before = state_of(keeper)
        self.assertEqual(keeper.wish(wish), NOTHING, wish)
        self.assertEqual(state_of(keeper), before, wish)

    def check_ignored(self, keeper, letter):
        before = state_of(keeper)
        self.assertEqual(keeper.take(letter), [], letter)
        self.assertEqual(state_of(keeper), before, letter)

    def check_view(self, keeper, every, look, words, pots):
        """The view is that of these parts: whatever is asked of both, the answers are the same."""
        view = keeper.view()
        self.assertIsInstance(view, View)
        self.assertEqual((view.every, view.last_look, sorted(view.known), view.pots), (every, look, words, pots))
        same = View(every, look, words, pots)
        self.assertEqual(keeper.worth(), worth(same))
        self.assertEqual(worth(view), worth(same))
        self.assertEqual(keeper.paper()[0], paper(same)[0])
        self.assertTrue(stands_up(same, keeper.paper()))


class TestMade(KeeperTest):
    def test_every_at_its_borders_and_beyond(self):
        pots = [(0, 1, 60, 40, 100)]
        for every in (1, 2, 49, 50):
            self.assertEqual(Keeper(0, every, pots).worth(), 60)
        for every in (0, 51, -1, -50, 100, 10 ** 29):
            for hand in (0, 1, 2):
                with self.assertRaises(NoSpan):
                    Keeper(hand, every, pots)
            with self.assertRaises(NoSpan):
                Keeper(0, every, [])

    def test_wait_at_every_and_one_more(self):
        for every in (1, 3, 50):
            for hand in (0, 1):
                Keeper(hand, every, [(0, 1, 60, 40, every + 1)])
                with self.assertRaises(NoSpan):
                    Keeper(hand, every, [(0, 1, 60, 40, every)])
                with self.assertRaises(NoSpan):
                    Keeper(hand, every, [(2, 3, 1, 1, every), (0, 1, 6, 4, every + 1), (hand, 3, 5, 5, every)])

    def test_short_wait_of_a_pot_that_it_is_not_in(self):
        for hand in (2, 3):
            Keeper(hand, 3, [(0, 1, 60, 40, 3), (1, 0, 60, 40, 1), (2, 3, 60, 40, 4)])

    def test_coin_is_no_hand(self):
        keeper = Keeper(3, 3, [(0, 1, 3, 3, 3), (1, 0, 3, 3, 1)])
        self.assertEqual(keeper.worth(), 0)

    def test_refusal_stands_under_book_error(self):
        self.assertEqual(NoSpan.__bases__, (BookError,))

    def test_accounts_of_left_right_and_none(self):
        keeper = hand_of()
        first = (0, (60, 40), ())
        self.assertEqual(values_of(keeper.account(0)), (0, 0, first, None, [first], [], "calm"))
        first = (0, (70, 30), ())
        self.assertEqual(values_of(keeper.account(1)), (1, 1, first, None, [first], [], "calm"))
        for pot in (2, 3, -1, 10 ** 29):
            with self.assertRaises(NoDeed):
                keeper.account(pot)
        self.assertEqual(hand_of(hand=1).account(0).side, 1)
        self.assertEqual(hand_of(hand=1).account(2).side, 0)
        self.assertEqual(hand_of(hand=2).account(1).side, 0)
        self.assertEqual(hand_of(hand=2).account(2).side, 1)

    def test_hand_in_no_pot(self):
        keeper = hand_of([5], hand=3)
        for pot in range(3):
            with self.assertRaises(NoDeed):
                keeper.account(pot)
            self.check_nothing(keeper, ("give", pot, 1))
            self.check_nothing(keeper, ("finish", pot))
        self.check_view(keeper, EVERY, 0, [5], [])
        self.assertEqual(keeper.worth(), 0)
        self.assertEqual(keeper.paper(), (0, [], {}))
        self.assertEqual(keeper.look(on_day(4)), [])
        self.assertEqual(keeper.looked(), 4)

    def test_each_hand_has_its_own_coin_at_the_begin(self):
        for hand, coin in ((0, 90), (1, 50), (2, 80), (3, 0)):
            keeper = hand_of(hand=hand)
            self.assertEqual(keeper.worth(), coin)
            self.assertEqual(keeper.given(), 0)
            self.assertEqual(keeper.looked(), 0)
            self.assertEqual(keeper.words(), [])

    def test_words_rise_and_stand_once(self):
        self.assertEqual(hand_of([7, 0, 59, 7, 3, 0]).words(), [0, 3, 7, 59])
        self.assertEqual(Keeper(0, EVERY, POTS, []).words(), [])
        self.assertEqual(Keeper(0, EVERY, POTS).words(), [])
        self.assertEqual(Keeper(0, EVERY, POTS, None).words(), [])

    def test_told_words_are_the_askers_own(self):
        keeper = hand_of([7, 3])
        told = keeper.words()
        told.append(9)
        self.assertEqual(keeper.words(), [3, 7])
        deal = keeper.paper()
        deal[1].append(9)
        deal[2][9] = 9
        self.assertEqual(keeper.paper(), (90, [0, 0], {}))

    def test_what_is_changed_behind_changes_nothing(self):
        pots = list(POTS)
        words = [7]
        keeper = Keeper(0, EVERY, pots, words)
        before = state_of(keeper)
        pots[0] = (2, 3, 1, 1, 50)
        pots.pop()
        words.append(8)
        self.assertEqual(state_of(keeper), before)

    def test_nothing_handed_in_is_changed(self):
        pots = list(POTS)
        words = [7, 7, 2]
        keeper = Keeper(0, EVERY, pots, words)
        do(keeper, ("give", 0, 10))
        keeper.take(("word", 0, 9))
        keeper.look(on_day(2))
        self.assertEqual((pots, words), (POTS, [7, 7, 2]))

    def test_arguments_by_name(self):
        keeper = Keeper(hand=0, every=EVERY, pots=POTS, words=[4])
        self.assertEqual(keeper.account(pot=1).side, 1)
        self.assertEqual(keeper.wish(wish=("finish", 0)), (True, []))
        self.assertEqual(keeper.take(letter=("word", 0, 5)), [])
        self.assertEqual(keeper.look(book=Book(POTS)), [("lay", 0)])

    def test_two_hands_of_the_same_things_answer_the_same(self):
        left, right = hand_of([7]), hand_of([7])
        do(left, ("give", 0, 10))
        self.assertEqual(state_of(right), state_of(hand_of([7])))
        do(right, ("give", 0, 10))
        self.assertEqual(state_of(left), state_of(right))


class TestView(KeeperTest):
    def test_held(self):
        keeper = hand_of([9])
        left, right = (0, (60, 40), ()), (0, (70, 30), ())
        self.check_view(keeper, EVERY, 0, [9], [(0, [left], {}), (1, [right], {})])
        keeper.wish(("give", 0, 10))
        self.check_view(keeper, EVERY, 0, [9], [(0, [left, (1, (50, 50), ())], {}), (1, [right], {})])
        self.assertEqual(keeper.worth(), 80)

    def test_last_look_and_what_was_shown_for_each_pot(self):
        keeper = hand_of()
        book = on_day(2)
        book.show(0, 7)
        book.next_day()
        book.show(0, 8)
        book.show(1, 9)
        book.show(2, 5)
        go_to(book, 4)
        book.show(0, 7)
        self.assertEqual(keeper.look(book), [])
        self.check_view(
            keeper, EVERY, 4, [5, 7, 8, 9],
            [(0, [(0, (60, 40), ())], {7: 2, 8: 3}), (1, [(0, (70, 30), ())], {9: 3})],
        )

    def test_what_is_shown_behind_the_look_is_not_seen(self):
        keeper = hand_of()
        book = on_day(1)
        keeper.look(book)
        book.show(0, 7)
        book.lay(0, 1, (0, (60, 40), ()))
        book.next_day()
        self.check_view(keeper, EVERY, 1, [], [(0, [(0, (60, 40), ())], {}), (1, [(0, (70, 30), ())], {})])
        self.assertEqual(keeper.wish(("give", 0, 1))[0], True)

    def test_laid(self):
        keeper = hand_of()
        keeper.wish(("give", 0, 10))
        book = on_day(1)
        book.lay(0, 1, (0, (60, 40), ()))
        keeper.look(book)
        self.check_view(keeper, EVERY, 1, [], [(0, [(0, (60, 40), ())], {}), (1, [(0, (70, 30), ())], {})])
        self.assertEqual(keeper.worth(), 90)

    def test_laid_the_stand_that_was_offered(self):
        keeper = hand_of()
        letter = keeper.wish(("give", 0, 10))[1][0]
        book = on_day(1)
        book.lay(0, 1, (1, (50, 50), ()), letter[2])
        keeper.look(book)
        self.check_view(keeper, EVERY, 1, [], [(0, [(1, (50, 50), ())], {}), (1, [(0, (70, 30), ())], {})])
        self.assertEqual(keeper.worth(), 80)

    def test_taken(self):
        keeper = hand_of()
        book = on_day(1)
        for pot, side in ((0, 0), (1, 0)):
            made = POTS[pot]
            book.lay(pot, 1 - side, (0, (made[2], made[3]), ()))
            book.strike(pot, side, ("strike", pot, 1 - side, 0))
        keeper.look(book)
        self.assertEqual([stands for side, stands, seen in keeper.view().pots], [[(0, (100, 0), ())]] * 2)
        self.assertEqual(keeper.worth(), 100)
        other = hand_of(hand=2)
        other.look(book)
        self.check_view(other, EVERY, 1, [], [(0, [(0, (100, 0), ())], {}), (1, [(0, (10, 10), ())], {})])
        other = hand_of(hand=1)
        other.look(book)
        self.check_view(other, EVERY, 1, [], [(1, [(0, (100, 0), ())], {}), (0, [(0, (10, 10), ())], {})])
        self.assertEqual(other.worth(), 10)

    def test_a_changed_view_changes_nothing(self):
        keeper = hand_of([7])
        before = state_of(keeper)
        view = keeper.view()
        view.known.append(8)
        view.pots[0][1].append((0, (0, 0), ()))
        view.pots[0][2][5] = 5
        view.pots.pop()
        self.assertEqual(state_of(keeper), before)


class TestGive(KeeperTest):
    def test_lead_offers_and_has_given_at_once(self):
        keeper = hand_of()
        self.assertEqual(keeper.wish(("give", 0, 10)), (True, [offer(0, (1, (50, 50), ()))]))
        account = keeper.account(0)
        self.assertEqual((account.word(), account.mine, account.may[1]),
                         ("offered", (0, (60, 40), ()), (1, (50, 50), ())))
        self.assertEqual((keeper.given(), keeper.worth()), (10, 80))
        play(keeper, [offer(0, (1, (50, 50), ()))])
        self.assertEqual((keeper.account(0).mine, keeper.account(0).word()), ((1, (50, 50), ()), "calm"))
        self.assertEqual((keeper.given(), keeper.worth()), (10, 80))

    def test_other_side_asks_and_has_given_with_the_offer(self):
        keeper = hand_of()
        before = values_of(keeper.account(1))
        self.assertEqual(keeper.wish(("give", 1, 10)), (True, [("ask", 1, (80, 20), ())]))
        self.assertEqual(values_of(keeper.account(1)), before)
        self.assertEqual((keeper.given(), keeper.worth()), (0, 90))
        self.assertEqual(keeper.take(offer(1, (1, (80, 20), ()))), [accept(1, (1, (80, 20), ()))])
        self.assertEqual((keeper.given(), keeper.worth()), (10, 80))
        self.assertEqual(keeper.take(struck(1, 0)), [])
        self.assertEqual((keeper.given(), keeper.worth()), (10, 80))
        self.assertEqual(values_of(keeper.account(1))[5:], ([0], "calm"))

    def test_gifts_add_up(self):
        keeper = hand_of()
        do(keeper, ("give", 0, 10))
        do(keeper, ("give", 1, 4))
        do(keeper, ("give", 0, 3))
        self.assertEqual((keeper.given(), keeper.worth()), (17, 73))

    def test_ties_stay_as_they_were(self):
        keeper = hand_of()
        come_to(keeper, 0, (60, 34), ((1, 6, 8, 20),))
        do(keeper, ("pay", 0, 5, 7, 12))
        ties = ((1, 6, 8, 20), (0, 5, 7, 12))
        self.assertEqual(keeper.wish(("give", 0, 8)), (True, [offer(0, (3, (47, 42), ties))]))
        keeper = hand_of()
        come_to(keeper, 1, (64, 30), ((0, 6, 8, 20),))
        do(keeper, ("pay", 1, 5, 7, 12))
        ties = ((0, 6, 8, 20), (1, 5, 7, 12))
        self.assertEqual(keeper.wish(("give", 1, 8)), (True, [("ask", 1, (72, 17), ties)]))

    def test_amounts(self):
        for pot, share in ((0, 60), (1, 30)):
            for amount in (-1, 0, share + 1, MOST, MOST + 1, -MOST, 10 ** 29):
                self.check_nothing(hand_of(), ("give", pot, amount))
            for amount in (1, 2, share - 1, share):
                self.assertTrue(hand_of().wish(("give", pot, amount))[0])

    def test_greatest_amount(self):
        pots = [(0, 1, MOST, MOST, 5), (1, 0, MOST, MOST, 5)]
        for pot in (0, 1):
            keeper = hand_of(pots=pots)
            come_to(keeper, pot, (MOST + 5, MOST - 5) if pot == 0 else (MOST - 5, MOST + 5))
            self.check_nothing(keeper, ("give", pot, MOST + 1))
            self.check_nothing(keeper, ("pay", pot, MOST + 1, 7, 9))
            self.check_nothing(keeper, ("pass", pot, MOST + 1, 7, 0))
            self.assertTrue(read_kept(kept(keeper)).wish(("pay", pot, MOST, 7, 9))[0])
            self.assertTrue(read_kept(kept(keeper)).wish(("pass", pot, MOST, 7, 0))[0])
            do(keeper, ("give", pot, MOST))
            self.assertEqual(keeper.given(), MOST)
            self.assertEqual(keeper.worth(), MOST + 5)

    def test_numbers_end(self):
        for pot, side, shares in ((0, 0, "60 40"), (1, 1, "70 30")):
            for number, taken in ((999999, True), (1000000, False)):
                text = f"hand 0 3 0 0\nwords\npot {pot} {side} 100 calm\nmine {number} {shares}\nclaim held\nseen"
                self.assertEqual(read_kept(text).wish(("give", pot, 1))[0], taken)
                self.assertEqual(read_kept(text).wish(("pass", pot, 1, 7, 0))[0], taken)


class TestPay(KeeperTest):
    def test_lead(self):
        keeper = hand_of()
        one = (1, (55, 40), ((0, 5, 7, 12),))
        self.assertEqual(keeper.wish(("pay", 0, 5, 7, 12)), (True, [offer(0, one)]))
        self.assertEqual(keeper.account(0).may, [(0, (60, 40), ()), one])
        self.assertEqual((keeper.given(), keeper.worth()), (5, 85))

    def test_other_side(self):
        keeper = hand_of()
        ties = ((1, 5, 7, 12),)
        self.assertEqual(keeper.wish(("pay", 1, 5, 7, 12)), (True, [("ask", 1, (70, 25), ties)]))
        self.assertEqual((keeper.given(), keeper.worth()), (0, 90))
        keeper.take(offer(1, (1, (70, 25), ties)))
        self.assertEqual((keeper.given(), keeper.worth()), (5, 85))

    def test_tie_stands_behind_the_others(self):
        for pot, side in ((0, 0), (1, 1)):
            keeper = hand_of()
            mine = keeper.account(pot).mine
            first = (1 - side, 6, 8, 20)
            shares = (60, 34) if pot == 0 else (64, 30)
            come_to(keeper, pot, shares, (first,))
            letter = keeper.wish(("pay", pot, 5, 7, 12))[1][0]
            ties = letter[2][3][2] if pot == 0 else letter[3]
            self.assertEqual(ties, (first, (side, 5, 7, 12)))
            self.assertEqual(mine[2], ())

    def test_amounts(self):
        for pot, share in ((0, 60), (1, 30)):
            for amount in (-1, 0, share + 1, MOST, MOST + 1):
                self.check_nothing(hand_of(), ("pay", pot, amount, 7, 12))
                self.check_nothing(hand_of(), ("pass", pot, amount, 7, 0))
            for amount in (1, share):
                self.assertTrue(hand_of().wish(("pay", pot, amount, 7, 12))[0])
                self.assertTrue(hand_of().wish(("pass", pot, amount, 7, 0))[0])

    def test_words_and_days(self):
        for pot in (0, 1):
            for kind, late in (("pay", 10 ** 6), ("pass", 0)):
                for word in (0, 59):
                    self.assertTrue(hand_of().wish((kind, pot, 5, word, late))[0])
                for word in (-1, 60, 10 ** 29):
                    self.check_nothing(hand_of(), (kind, pot, 5, word, late))
            for day in (-1, 10 ** 6 + 1, 10 ** 29):
                self.check_nothing(hand_of(), ("pay", pot, 5, 7, day))
            self.assertTrue(hand_of().wish(("pay", pot, 5, 7, 0))[0])

    def test_word_tied_already_and_seventh_tie(self):
        for pot, side in ((0, 0), (1, 1)):
            keeper = hand_of()
            for word in range(6):
                do(keeper, ("pay", pot, 1, word, 20))
                self.check_nothing(keeper, ("pay", pot, 1, word, 30))
                self.check_nothing(keeper, ("pass", pot, 1, word, 0))
            self.check_nothing(keeper, ("pay", pot, 1, 6, 20))
            self.check_nothing(keeper, ("pass", pot, 1, 6, 0))
            self.assertEqual(len(keeper.account(pot).mine[2]), 6)
            self.assertEqual((keeper.given(), keeper.worth()), (6, 84))

    def test_tie_that_goes_back_is_given_all_the_same(self):
        keeper = hand_of()
        keeper.wish(("pay", 0, 5, 7, 0))
        self.assertEqual((keeper.given(), keeper.worth()), (5, 90))


class TestPass(KeeperTest):
    def test_not_taken_where_it_costs(self):
        for pot in (0, 1):
            self.check_nothing(hand_of(), ("pass", pot, 5, 7, 12))
            self.check_nothing(hand_of(), ("pass", pot, 1, 7, 1))

    def test_letters(self):
        keeper = hand_of()
        self.assertEqual(keeper.wish(("pass", 0, 5, 7, 0)), (True, [offer(0, (1, (55, 40), ((0, 5, 7, 0),)))]))
        self.assertEqual((keeper.given(), keeper.worth()), (0, 90))
        keeper = hand_of()
        self.assertEqual(keeper.wish(("pass", 1, 5, 7, 0)), (True, [("ask", 1, (70, 25), ((1, 5, 7, 0),))]))
        keeper.take(offer(1, (1, (70, 25), ((1, 5, 7, 0),))))
        self.assertEqual((keeper.given(), keeper.worth()), (0, 90))

    def amid(self, pot, back, day=20):
        """A hand to whom 5 come by word 7 in the one pot, and that passes them on in the other."""
        keeper = hand_of()
        tie = ((1, 0)[back], 5, 7, day)
        come_to(keeper, back, (60, 35) if back == 0 else (65, 30), (tie,))
        return keeper

    def test_amid_a_payment(self):
        for pot, back in ((0, 1), (1, 0)):
            self.assertEqual(self.amid(pot, back).worth(), 90)
            # 17 - 1 + 3 lies below 20, 18 - 1 + 3 doesn't.
            for amount, day, taken in ((5, 17, True), (5, 18, False), (6, 17, False), (4, 17, True), (4, 18, False),
                                       (5, 16, True), (5, 20, False), (5, 1, True), (1, 18, False), (5, 19, False)):
                keeper = self.amid(pot, back)
                if not taken:
                    self.check_nothing(keeper, ("pass", pot, amount, 7, day))
                    continue
                do(keeper, ("pass", pot, amount, 7, day))
                self.assertEqual((keeper.given(), keeper.worth()), (0, 90))
                self.assertEqual(keeper.account(pot).mine[2], ((keeper.account(pot).side, amount, 7, day),))

    def test_amid_a_payment_of_another_word(self):
        for pot, back in ((0, 1), (1, 0)):
            self.check_nothing(self.amid(pot, back), ("pass", pot, 5, 8, 17))

    def test_amid_a_payment_by_every(self):
        for every in (1, 2, 3):
            keeper = Keeper(0, every, POTS)
            come_to(keeper, 1, (65, 30), ((0, 5, 7, 20),))
            self.check_nothing(keeper, ("pass", 0, 5, 7, 21 - every))
            self.assertTrue(keeper.wish(("pass", 0, 5, 7, 20 - every))[0])

    def test_last_look_counts(self):
        keeper = hand_of()
        self.check_nothing(keeper, ("pass", 0, 5, 7, 4))
        keeper.look(on_day(3))
        self.check_nothing(keeper, ("pass", 0, 5, 7, 4))
        keeper.look(on_day(4))
        self.assertTrue(keeper.wish(("pass", 0, 5, 7, 4))[0])

    def test_not_while_what_comes_is_only_offered(self):
        keeper = hand_of()
        keeper.take(offer(1, (1, (65, 30), ((0, 5, 7, 20),))))
        self.assertEqual(keeper.account(1).word(), "waiting")
        self.check_nothing(keeper, ("pass", 0, 5, 7, 17))
        keeper.take(struck(1, 0))
        self.assertTrue(keeper.wish(("pass", 0, 5, 7, 17))[0])


class TestSettleAndDrop(KeeperTest):
    def with_tie_to(self, pot, words=()):
        keeper = hand_of(words)
        if pot == 0:
            come_to(keeper, 0, (60, 35), ((1, 5, 7, 12),))
        else:
            come_to(keeper, 1, (65, 30), ((0, 5, 7, 12),))
        return keeper

    def test_settle_by_the_lead(self):
        keeper = self.with_tie_to(0, [7])
        self.assertEqual(keeper.worth(), 95)
        self.assertEqual(
            keeper.wish(("settle", 0, 7)), (True, [("word", 0, 7), offer(0, (2, (65, 35), ()))])
        )
        self.assertEqual((keeper.account(0).word(), keeper.given(), keeper.worth()), ("offered", 0, 95))

    def test_settle_by_the_other_side(self):
        keeper = self.with_tie_to(1, [7])
        self.assertEqual(keeper.wish(("settle", 1, 7)), (True, [("word", 1, 7), ("ask", 1, (65, 35), ())]))
        self.assertEqual((keeper.account(1).word(), keeper.given(), keeper.worth()), ("calm", 0, 95))
        keeper.take(offer(1, (2, (65, 35), ())))
        self.assertEqual((keeper.account(1).mine, keeper.given(), keeper.worth()), ((2, (65, 35), ()), 0, 95))

    def test_settle_of_one_among_several(self):
        keeper = hand_of([8])
        ties = ((1, 5, 7, 12), (1, 6, 8, 13), (1, 1, 9, 14))
        come_to(keeper, 0, (60, 28), ties)
        letters = keeper.wish(("settle", 0, 8))[1]
        self.assertEqual(letters, [("word", 0, 8), offer(0, (2, (66, 28), (ties[0], ties[2])))])

    def test_settle_only_with_the_word(self):
        for pot in (0, 1):
            keeper = self.with_tie_to(pot, [6, 8])
            self.check_nothing(keeper, ("settle", pot, 7))
            keeper.take(("word", 2, 7))
            self.assertTrue(keeper.wish(("settle", pot, 7))[0])

    def test_no_such_tie(self):
        for pot in (0, 1):
            keeper = self.with_tie_to(pot, list(range(60)))
            for word in (6, 8, 59, 60, -1, 10 ** 29):
                self.check_nothing(keeper, ("settle", pot, word))
                self.check_nothing(keeper, ("drop", pot, word))
            self.check_nothing(hand_of([7]), ("settle", pot, 7))
            self.check_nothing(hand_of([7]), ("drop", pot, 7))

    def test_tie_paid_by_the_wrong_side(self):
        for pot in (0, 1):
            self.check_nothing(self.with_tie_to(pot, [7]), ("drop", pot, 7))
            # Without the word the tie is worth nothing to it, and to drop it would cost nothing.
            self.check_nothing(self.with_tie_to(pot), ("drop", pot, 7))
            keeper = hand_of([7])
            do(keeper, ("pay", pot, 5, 7, 12))
            self.check_nothing(keeper, ("settle", pot, 7))

    def test_drop_by_the_lead(self):
        keeper = hand_of()
        do(keeper, ("pay", 0, 5, 7, 12))
        do(keeper, ("pay", 0, 6, 8, 12))
        letter = offer(0, (3, (54, 40), ((0, 6, 8, 12),)))
        self.assertEqual(keeper.wish(("drop", 0, 7)), (True, [letter]))
        self.assertEqual((keeper.given(), keeper.worth()), (11, 79))
        play(keeper, [letter])
        self.assertEqual((keeper.given(), keeper.worth()), (11, 84))

    def test_drop_by_the_other_side(self):
        keeper = hand_of()
        do(keeper, ("pay", 1, 5, 7, 12))
        self.assertEqual(keeper.wish(("drop", 1, 7)), (True, [("ask", 1, (70, 30), ())]))
        self.assertEqual((keeper.given(), keeper.worth()), (5, 85))
        play(keeper, [("ask", 1, (70, 30), ())])
        self.assertEqual((keeper.given(), keeper.worth()), (5, 90))

    def test_tie_of_mine_counts_and_not_the_number_alone(self):
        keeper = self.with_tie_to(0, [7])
        do(keeper, ("settle", 0, 7))
        self.check_nothing(keeper, ("settle", 0, 7))


class TestNotTaken(KeeperTest):
    WISHES = (
        lambda pot: ("give", pot, 1),
        lambda pot: ("pay", pot, 1, 9, 30),
        lambda pot: ("pass", pot, 1, 9, 0),
        lambda pot: ("settle", pot, 7),
        lambda pot: ("drop", pot, 8),
        lambda pot: ("finish", pot),
    )

    def ready(self, pot):
        """A hand in whose pot each wish would be taken."""
        keeper = hand_of([7])
        if pot == 0:
            come_to(keeper, 0, (60, 35), ((1, 5, 7, 40),))
        else:
            come_to(keeper, 1, (65, 30), ((0, 5, 7, 40),))
        do(keeper, ("pay", pot, 2, 8, 40))
        return keeper

    def test_each_is_taken_when_ready(self):
        for pot in (0, 1):
            for wish_of in self.WISHES:
                self.assertTrue(self.ready(pot).wish(wish_of(pot))[0], wish_of(pot))

    def test_not_in_the_pot(self):
        for pot in (2, 3, -1, 10 ** 29):
            for wish_of in self.WISHES:
                self.check_nothing(self.ready(0), wish_of(pot))
                self.check_nothing(self.ready(1), wish_of(pot))

    def test_no_longer_held_by_its_last_look(self):
        for pot in (0, 1):
            for wish_of in self.WISHES:
                keeper = self.ready(pot)
                account = keeper.account(pot)
                book = on_day(1)
                agree = ("agree", pot, account.side, account.mine)
                book.lay(pot, 1 - account.side, account.mine, agree)
                unseen = read_kept(kept(keeper))
                self.assertTrue(unseen.wish(wish_of(pot))[0])
                keeper.look(book)
                self.check_nothing(keeper, wish_of(pot))
                self.assertTrue(keeper.wish(("finish", 1 - pot))[0])

    def test_taken_by_its_last_look(self):
        for pot in (0, 1):
            for wish_of in self.WISHES:
                keeper = self.ready(pot)
                account = keeper.account(pot)
                book = on_day(1)
                book.lay(pot, 1 - account.side, (0, POTS[pot][2:4], ()))
                self.assertEqual(keeper.look(book), [("strike", pot)])
                self.check_nothing(keeper, wish_of(pot))

    def test_laid_by_itself(self):
        for pot in (0, 1):
            for wish_of in self.WISHES:
                keeper = self.ready(pot)
                keeper.wish(("finish", pot))
                self.assertEqual(keeper.look(on_day(1)), [("lay", pot)])
                self.check_nothing(keeper, wish_of(pot))

    def test_not_calm(self):
        for pot in (0, 1):
            for wish_of in self.WISHES:
                keeper = self.ready(pot)
                if pot == 0:
                    keeper.wish(("give", 0, 1))
                    self.assertEqual(keeper.account(0).word(), "offered")
                else:
                    mine = keeper.account(1).mine
                    keeper.take(offer(1, (mine[0] + 1, mine[1], mine[2])))
                    self.assertEqual(keeper.account(1).word(), "waiting")
                if wish_of(pot)[0] == "finish":
                    self.assertEqual(keeper.wish(wish_of(pot)), (True, []))
                else:
                    self.check_nothing(keeper, wish_of(pot))

    def test_not_calm_elsewhere_is_no_hindrance(self):
        keeper = hand_of()
        keeper.wish(("give", 0, 1))
        self.assertTrue(keeper.wish(("give", 1, 1))[0])

    def test_finish_changes_no_account(self):
        keeper = hand_of()
        before = state_of(keeper)[:6]
        self.assertEqual(keeper.wish(("finish", 0)), (True, []))
        self.assertEqual(keeper.wish(("finish", 0)), (True, []))
        self.assertEqual(state_of(keeper)[:6], before)
        self.assertTrue(keeper.wish(("give", 0, 1))[0])


class TestTakeWord(KeeperTest):
    def test_has_it_from_now_on(self):
        keeper = hand_of([9])
        before = state_of(keeper)
        for pot, word in ((0, 7), (1, 0), (2, 59), (0, 7)):
            self.assertEqual(keeper.take(("word", pot, word)), [])
        self.assertEqual(keeper.words(), [0, 7, 9, 59])
        self.assertEqual((state_of(keeper)[0], state_of(keeper)[2:6]), (before[0], before[2:6]))

    def test_of_a_pot_that_is_no_longer_held(self):
        keeper = hand_of()
        keeper.wish(("finish", 0))
        keeper.look(on_day(1))
        self.assertEqual(keeper.take(("word", 0, 7)), [])
        self.assertEqual(keeper.words(), [7])

    def test_it_raises_the_worth(self):
        keeper = hand_of()
        come_to(keeper, 0, (60, 35), ((1, 5, 7, 12),))
        self.assertEqual(keeper.worth(), 90)
        keeper.take(("word", 1, 7))
        self.assertEqual(keeper.worth(), 95)

    def test_no_word(self):
        for word in (60, -1, 10 ** 29, True, None, "7"):
            self.check_ignored(hand_of(), ("word", 0, word))

    def test_what_is_no_letter(self):
        agree = ("agree", 0, 0, (1, (60, 40), ()))
        for thing in (None, 0, "word", (), [], {}, ("word",), ("word", 7), ("word", 0, 7, 7), ["word", 0, 7],
                      ("offer",),
                      ("offer", 0, agree, agree), ("struck", 0, agree), ("ask", 0, (60, 40)), ("give", 0, 1), object(),
                      ("ask", 0, [60, 40], ()), ("ask", 0, (True, 99), ())):
            self.assertFalse(is_letter(thing))
            self.check_ignored(hand_of(), thing)


class TestTakeAsk(KeeperTest):
    def test_calm_lead_offers_it(self):
        keeper = hand_of()
        ties = ((1, 5, 7, 12),)
        self.assertEqual(keeper.take(("ask", 0, (60, 35), ties)), [offer(0, (1, (60, 35), ties))])
        self.assertEqual(keeper.account(0).word(), "offered")
        self.assertEqual(keeper.account(0).may, [(0, (60, 40), ()), (1, (60, 35), ties)])
        self.assertEqual((keeper.given(), keeper.worth()), (0, 90))

    def test_what_costs_nothing_and_what_costs_one(self):
        self.assertEqual(hand_of().take(("ask", 0, (60, 40), ())), [offer(0, (1, (60, 40), ()))])
        self.assertEqual(hand_of().take(("ask", 0, (61, 39), ())), [offer(0, (1, (61, 39), ()))])
        self.assertEqual(hand_of().take(("ask", 0, (100, 0), ())), [offer(0, (1, (100, 0), ()))])
        self.check_ignored(hand_of(), ("ask", 0, (59, 41), ()))
        self.check_ignored(hand_of(), ("ask", 0, (55, 40), ((0, 5, 7, 12),)))

    def test_what_the_hand_wished_itself_gives_no_allowance_for_an_ask(self):
        keeper = hand_of()
        do(keeper, ("give", 0, 5))
        self.check_ignored(keeper, ("ask", 0, (50, 50), ()))

    def test_no_stand_of_the_pot(self):
        for shares in ((60, 41), (60, 39), (61, 40), (0, 0)):
            self.check_ignored(hand_of(), ("ask", 0, shares, ()))
        self.check_ignored(hand_of(), ("ask", 0, (60, 40), ((1, 5, 7, 12),)))

    def test_number_at_its_end(self):
        for number, answers in ((999999, 1), (1000000, 0)):
            text = f"hand 0 3 0 0\nwords\npot 0 0 100 calm\nmine {number} 60 40\nclaim held\nseen"
            self.assertEqual(len(read_kept(text).take(("ask", 0, (61, 39), ()))), answers)

    def test_lead_that_is_not_calm(self):
        keeper = hand_of()
        keeper.wish(("give", 0, 5))
        self.check_ignored(keeper, ("ask", 0, (60, 40), ()))
        self.check_ignored(keeper, ("ask", 0, (55, 45), ()))

    def test_other_side(self):
        keeper = hand_of()
        self.check_ignored(keeper, ("ask", 1, (70, 30), ()))
        self.check_ignored(keeper, ("ask", 1, (60, 40), ()))
        keeper.wish(("give", 1, 10))
        self.check_ignored(keeper, ("ask", 1, (80, 20), ()))


class TestTakeSteps(KeeperTest):
    def test_offer_that_fits(self):
        for one in ((1, (70, 30), ()), (1, (60, 40), ()), (1, (65, 30), ((0, 5, 7, 12),))):
            keeper = hand_of()
            self.assertEqual(keeper.take(offer(1, one)), [accept(1, one)])
            first = (0, (70, 30), ())
            self.assertEqual(
                values_of(keeper.account(1)), (1, 1, one, ("agree", 1, 0, one), [first, one], [], "waiting")
            )
            self.assertEqual((keeper.given(), keeper.worth()), (0, 90))

    def test_offer_that_is_not_good(self):
        for one in ((1, (71, 29), ()), (1, (70, 29), ((1, 1, 7, 12),)), (1, (100, 0), ())):
            self.check_ignored(hand_of(), offer(1, one))

    def test_offer_that_does_not_fit(self):
        good = (1, (60, 40), ())
        for letter in (
            offer(1, (0, (60, 40), ())), offer(1, (2, (60, 40), ())), offer(1, (1, (60, 41), ())),
            ("offer", 1, ("agree", 1, 1, good)), ("offer", 1, ("agree", 0, 0, good)), offer(0, (1, (70, 30), ())),
            accept(1, good), struck(1, 0),
        ):
            self.check_ignored(hand_of(), letter)
        keeper = hand_of()
        keeper.take(offer(1, good))
        self.check_ignored(keeper, offer(1, (2, (50, 50), ())))
        self.check_ignored(keeper, offer(1, good))

    def test_accept(self):
        keeper = hand_of()
        one = (1, (50, 50), ())
        keeper.wish(("give", 0, 10))
        for letter in (
            accept(0, (1, (51, 49), ())), accept(0, (2, (50, 50), ())),
            ("accept", 0, ("agree", 0, 0, one), ("strike", 0, 1, 0)),
            ("accept", 0, ("agree", 0, 1, one), ("strike", 0, 0, 0)),
            ("accept", 0, ("agree", 0, 1, one), ("strike", 0, 1, 1)),
            ("accept", 0, ("agree", 1, 1, one), ("strike", 0, 1, 0)),
            ("accept", 1, ("agree", 0, 1, one), ("strike", 0, 1, 0)),
            struck(0, 0), offer(0, one),
        ):
            self.check_ignored(keeper, letter)
        self.assertEqual(keeper.take(accept(0, one)), [struck(0, 0)])
        self.assertEqual(
            values_of(keeper.account(0)), (0, 0, one, ("agree", 0, 1, one), [one], [0], "calm")
        )
        self.assertEqual((keeper.given(), keeper.worth()), (10, 80))
        self.check_ignored(keeper, accept(0, one))

    def test_struck(self):
        keeper = hand_of()
        one = (1, (60, 40), ())
        keeper.take(offer(1, one))
        for letter in (struck(1, 1), struck(0, 0), ("struck", 1, ("strike", 1, 1, 0)),
                       ("struck", 1, ("strike", 0, 0, 0)),
                       accept(1, one)):
            self.check_ignored(keeper, letter)
        self.assertEqual(keeper.take(struck(1, 0)), [])
        self.assertEqual(values_of(keeper.account(1)), (1, 1, one, ("agree", 1, 0, one), [one], [0], "calm"))
        self.assertEqual(keeper.worth(), 100)
        self.check_ignored(keeper, struck(1, 0))

    def test_of_a_pot_that_it_is_not_in(self):
        for letter in (offer(2, (1, (10, 10), ())), accept(2, (1, (10, 10), ())), struck(2, 0),
                       ("ask", 2, (10, 10), ())):
            self.check_ignored(hand_of(), letter)
            self.check_ignored(hand_of(hand=3), letter)

    def letters_to(self, keeper, pot):
        """Letters that the hand would answer or keep as long as the pot is held."""
        mine = keeper.account(pot).mine
        if pot == 0:
            return [("ask", 0, mine[1], mine[2])]
        return [offer(1, (mine[0] + 1, mine[1], mine[2]))]

    def test_no_longer_held(self):
        for pot in (0, 1):
            keeper = hand_of()
            first = keeper.account(pot).mine
            book = on_day(1)
            book.lay(pot, 1 - keeper.account(pot).side, first)
            for letter in self.letters_to(keeper, pot):
                self.assertEqual(len(read_kept(kept(keeper)).take(letter)), 1)
                keeper.look(book)
                self.check_ignored(keeper, letter)

    def test_laid_by_itself(self):
        for pot in (0, 1):
            keeper = hand_of()
            letters = self.letters_to(keeper, pot)
            keeper.wish(("finish", pot))
            self.assertEqual(len(read_kept(kept(keeper)).take(letters[0])), 1)
            keeper.look(on_day(1))
            self.check_ignored(keeper, letters[0])

    def test_answers_to_what_is_under_way_when_no_longer_held(self):
        book = on_day(1)
        book.lay(0, 1, (0, (60, 40), ()))
        book.lay(1, 0, (0, (70, 30), ()))
        keeper = hand_of()
        keeper.wish(("give", 0, 10))
        keeper.take(offer(1, (1, (60, 40), ())))
        keeper.look(book)
        self.check_ignored(keeper, accept(0, (1, (50, 50), ())))
        self.check_ignored(keeper, struck(1, 0))

    def test_taken_by_strike(self):
        keeper = hand_of()
        come_to(keeper, 1, (60, 40))
        book = on_day(1)
        book.lay(1, 0, (0, (70, 30), ()))
        keeper.look(book)
        self.assertEqual(book.told(1), ("taken", 1))
        self.check_ignored(keeper, offer(1, (2, (60, 40), ())))


class TestAsked(KeeperTest):
    def test_allowance_that_is_needed(self):
        keeper = hand_of()
        keeper.wish(("give", 1, 10))
        self.assertEqual(keeper.take(offer(1, (1, (80, 20), ()))), [accept(1, (1, (80, 20), ()))])
        self.assertEqual((keeper.given(), keeper.worth()), (10, 80))

    def test_without_it_the_offer_is_not_good(self):
        self.check_ignored(hand_of(), offer(1, (1, (80, 20), ())))

    def test_allowance_that_is_not_needed(self):
        keeper = hand_of()
        ties = ((1, 5, 7, 0),)
        self.assertEqual(keeper.wish(("pay", 1, 5, 7, 0)), (True, [("ask", 1, (70, 25), ties)]))
        keeper.take(offer(1, (1, (70, 25), ties)))
        self.assertEqual((keeper.given(), keeper.worth()), (5, 90))

    def test_once_and_not_again(self):
        keeper = hand_of()
        do(keeper, ("give", 1, 10))
        come_to(keeper, 1, (70, 30))
        self.check_ignored(keeper, offer(1, (3, (80, 20), ())))
        come_to(keeper, 1, (60, 40))
        self.check_ignored(keeper, offer(1, (4, (80, 20), ())))
        self.assertEqual(keeper.given(), 10)

    def test_not_given_again_by_an_offer_of_the_same(self):
        keeper = hand_of()
        do(keeper, ("give", 1, 10))
        come_to(keeper, 1, (80, 20))
        self.assertEqual((keeper.given(), keeper.worth()), (10, 80))

    def test_just_the_shares_and_ties(self):
        keeper = hand_of()
        keeper.wish(("pay", 1, 5, 7, 12))
        for one in ((1, (70, 25), ((1, 5, 8, 12),)), (1, (70, 25), ((1, 5, 7, 13),)), (1, (75, 25), ()),
                    (1, (71, 24), ((1, 5, 7, 12),)), (1, (71, 25), ((1, 4, 7, 12),))):
            self.check_ignored(keeper, offer(1, one))
        self.assertEqual(len(keeper.take(offer(1, (1, (70, 25), ((1, 5, 7, 12),))))), 1)
        self.assertEqual((keeper.given(), keeper.worth()), (5, 85))

    def test_offer_as_asked_that_does_not_fit(self):
        keeper = hand_of()
        keeper.wish(("give", 1, 10))
        one = (1, (80, 20), ())
        for letter in (offer(1, (2, (80, 20), ())), offer(1, (0, (80, 20), ())), ("offer", 1, ("agree", 1, 1, one)),
                       ("offer", 1, ("agree", 0, 0, one))):
            self.check_ignored(keeper, letter)
        keeper.take(offer(1, (1, (70, 30), ())))
        self.assertEqual(keeper.account(1).word(), "waiting")
        self.check_ignored(keeper, offer(1, (2, (80, 20), ())))

    def test_with_another_number_all_the_same(self):
        keeper = hand_of()
        keeper.wish(("give", 1, 10))
        come_to(keeper, 1, (70, 30))
        self.assertEqual((keeper.given(), keeper.worth()), (0, 90))
        self.assertEqual(keeper.take(offer(1, (2, (80, 20), ()))), [accept(1, (2, (80, 20), ()))])
        self.assertEqual((keeper.given(), keeper.worth()), (10, 80))

    def test_another_good_offer_is_free_and_forgets_nothing(self):
        keeper = hand_of()
        keeper.wish(("give", 1, 10))
        come_to(keeper, 1, (69, 31))
        self.assertEqual((keeper.given(), keeper.worth()), (0, 91))
        # Now the offer would cost 11, and the allowance is 10.
        self.check_ignored(keeper, offer(1, (2, (80, 20), ())))
        self.assertIn("asked 10 0 80 20", kept(keeper))

    def test_in_the_place_of_another(self):
        keeper = hand_of()
        keeper.wish(("give", 1, 10))
        self.assertEqual(keeper.wish(("give", 1, 3)), (True, [("ask", 1, (73, 27), ())]))
        self.check_ignored(keeper, offer(1, (1, (80, 20), ())))
        self.assertEqual(len(keeper.take(offer(1, (1, (73, 27), ())))), 1)
        self.assertEqual((keeper.given(), keeper.worth()), (3, 87))

    def test_allowance_of_the_last_with_the_same_shares(self):
        keeper = hand_of()
        keeper.wish(("pay", 1, 5, 7, 12))
        keeper.wish(("give", 1, 5))
        self.check_ignored(keeper, offer(1, (1, (70, 25), ((1, 5, 7, 12),))))

    def test_a_wish_that_is_not_taken_replaces_nothing(self):
        keeper = hand_of()
        keeper.wish(("give", 1, 10))
        self.check_nothing(keeper, ("pass", 1, 10, 7, 12))
        self.check_nothing(keeper, ("give", 1, 31))
        self.assertEqual(len(keeper.take(offer(1, (1, (80, 20), ())))), 1)

    def test_allowance_of_nothing(self):
        keeper = hand_of([7])
        come_to(keeper, 1, (65, 30), ((0, 5, 7, 12),))
        keeper.wish(("settle", 1, 7))
        self.assertIn("asked 0 0 65 35", kept(keeper))
        keeper.take(offer(1, (2, (65, 35), ())))
        self.assertNotIn("asked", kept(keeper))
        self.assertEqual(keeper.given(), 0)

    def test_each_pot_has_its_own(self):
        keeper = hand_of(pots=[(1, 0, 70, 30, 5), (2, 0, 70, 30, 5)])
        keeper.wish(("give", 0, 10))
        self.check_ignored(keeper, offer(1, (1, (80, 20), ())))
        keeper.wish(("give", 1, 4))
        self.check_ignored(keeper, offer(1, (1, (80, 20), ())))
        self.assertEqual(len(keeper.take(offer(0, (1, (80, 20), ())))), 1)
        self.assertEqual(keeper.given(), 10)
        self.assertEqual(len(keeper.take(offer(1, (1, (74, 26), ())))), 1)
        self.assertEqual(keeper.given(), 14)


class TestStrike(KeeperTest):
    def at_a_second_stand(self, pots=None):
        """A hand whose first stands of pot 0 and of pot 1 were given up."""
        keeper = hand_of(pots=pots)
        come_to(keeper, 0, (60, 40))
        come_to(keeper, 1, (70, 30))
        return keeper

    def test_ahead_of_the_end_of_the_wait_and_on_that_day(self):
        for pot in (0, 1):
            wait = POTS[pot][4]
            for late, strikes in ((0, True), (1, True), (wait - 1, True), (wait, False), (wait + 1, False)):
                keeper = self.at_a_second_stand()
                side = keeper.account(pot).side
                first = (0, POTS[pot][2:4], ())
                book = on_day(2)
                book.lay(pot, 1 - side, first)
                go_to(book, 2 + late)
                self.assertEqual(keeper.look(book), [("strike", pot)] if strikes else [])
                self.assertEqual(book.told(pot), ("taken", side) if strikes else ("laid", 1 - side, first, 2))
                self.assertEqual(keeper.worth(), 90 + 100 - first[1][side] if strikes else 90)
                self.assertEqual(keeper.looked(), 2 + late)

    def test_stand_that_was_not_given_up(self):
        for pot in (0, 1):
            keeper = self.at_a_second_stand()
            account = keeper.account(pot)
            book = on_day(2)
            book.lay(pot, 1 - account.side, account.mine, ("agree", pot, account.side, account.mine))
            self.assertEqual(keeper.look(book), [])
            self.assertEqual(book.told(pot)[0], "laid")

    def test_stand_while_the_strike_is_still_under_way(self):
        keeper = hand_of()
        keeper.wish(("give", 0, 10))
        keeper.take(offer(1, (1, (60, 40), ())))
        book = on_day(2)
        book.lay(0, 1, (0, (60, 40), ()))
        book.lay(1, 0, (0, (70, 30), ()))
        self.assertEqual(keeper.look(book), [])

    def test_laid_by_its_own_side(self):
        for pot in (0, 1):
            keeper = self.at_a_second_stand()
            book = on_day(2)
            book.lay(pot, keeper.account(pot).side, (0, POTS[pot][2:4], ()))
            self.assertEqual(keeper.look(book), [])
            self.assertEqual(book.told(pot)[0], "laid")

    def test_any_of_many(self):
        for number in range(4):
            keeper = hand_of()
            book = on_day(1)
            ones = [keeper.account(0).mine]
            for amount in (1, 2, 3, 4):
                do(keeper, ("give", 0, amount))
                ones.append(keeper.account(0).mine)
            self.assertEqual(keeper.account(0).strikes, [0, 1, 2, 3])
            book.lay(0, 1, ones[number], ("agree", 0, 0, ones[number]))
            self.assertEqual(keeper.look(book), [("strike", 0)])
            self.assertEqual(keeper.worth(), 130)

    def test_struck_once(self):
        keeper = self.at_a_second_stand()
        book = on_day(2)
        book.lay(0, 1, (0, (60, 40), ()))
        self.assertEqual(keeper.look(book), [("strike", 0)])
        self.assertEqual(keeper.look(book), [])
        book.next_day()
        self.assertEqual(keeper.look(book), [])
        self.assertEqual(keeper.worth(), 130)

    def test_pots_in_order(self):
        pots = [(1, 0, 40, 60, 5), (0, 1, 70, 30, 4), (0, 2, 5, 5, 6)]
        keeper = hand_of(pots=pots)
        book = on_day(1, pots)
        for pot in (2, 1, 0):
            come_to(keeper, pot, pots[pot][2:4])
            book.lay(pot, 1 - keeper.account(pot).side, (0, pots[pot][2:4], ()))
        self.assertEqual(keeper.look(book), [("strike", 0), ("strike", 1), ("strike", 2)])
        self.assertEqual(keeper.worth(), 210)

    def test_what_it_struck_it_knows(self):
        keeper = self.at_a_second_stand()
        book = on_day(2)
        book.lay(0, 1, (0, (60, 40), ()))
        keeper.look(book)
        self.assertIn("claim taken 0", kept(keeper))
        self.check_nothing(keeper, ("give", 0, 1))

    def test_ties_of_what_it_struck_are_not_shown(self):
        keeper = hand_of([7])
        come_to(keeper, 0, (60, 35), ((1, 5, 7, 12),))
        one = keeper.account(0).mine
        come_to(keeper, 0, (65, 35))
        book = on_day(10)
        book.lay(0, 1, one, ("agree", 0, 0, one))
        self.assertEqual(keeper.look(book), [("strike", 0)])
        self.assertEqual(book.all_shown(), [])


class TestShow(KeeperTest):
    def with_tie(self, pot, day=20, words=(7,), every=EVERY, amount=5):
        keeper = hand_of(words, every=every)
        share = POTS[pot][2:4]
        if pot == 0:
            come_to(keeper, 0, (share[0], share[1] - amount), ((1, amount, 7, day),))
        else:
            come_to(keeper, 1, (share[0] - amount, share[1]), ((0, amount, 7, day),))
        return keeper

    def test_days(self):
        for pot in (0, 1):
            for every in (1, 2, 3):
                for day, shows in ((20 - every - 2, False), (20 - every - 1, False), (20 - every, True), (19, True),
                                   (20, False), (21, False)):
                    keeper = self.with_tie(pot, every=every)
                    book = on_day(day)
                    self.assertEqual(keeper.look(book), [("show", pot, 7)] if shows else [])
                    self.assertEqual(book.shown_for(pot), {7: day} if shows else {})
                    self.assertEqual(book.shown_for(1 - pot), {})
                    self.assertEqual(keeper.worth(), 95 if day < 20 else 90)

    def test_only_a_word_that_it_has(self):
        for pot in (0, 1):
            keeper = self.with_tie(pot, words=(6, 8))
            book = on_day(18)
            self.assertEqual(keeper.look(book), [])
            keeper.take(("word", 0, 7))
            self.assertEqual(keeper.look(book), [("show", pot, 7)])

    def test_word_that_was_shown_for_another_pot(self):
        for pot in (0, 1):
            for elsewhere in (1 - pot, 2):
                keeper = self.with_tie(pot, words=())
                book = on_day(18)
                book.show(elsewhere, 7)
                self.assertEqual(keeper.look(book), [("show", pot, 7)])
                self.assertEqual(keeper.words(), [7])
                self.assertEqual(keeper.worth(), 95)

    def test_word_that_was_shown_for_this_pot(self):
        for pot in (0, 1):
            keeper = self.with_tie(pot)
            book = on_day(17)
            book.show(pot, 7)
            book.next_day()
            self.assertEqual(keeper.look(book), [])
            self.assertEqual(book.shown_for(pot), {7: 17})

    def test_shown_once(self):
        keeper = self.with_tie(0)
        book = on_day(18)
        self.assertEqual(keeper.look(book), [("show", 0, 7)])
        self.assertEqual(keeper.look(book), [])
        self.assertIn("seen 7/18", kept(keeper))
        book.next_day()
        self.assertEqual(keeper.look(book), [])
        self.assertIn("seen 7/18", kept(keeper))

    def test_tie_that_it_pays_itself(self):
        for pot in (0, 1):
            keeper = hand_of([7])
            do(keeper, ("pay", pot, 5, 7, 20))
            book = on_day(18)
            self.assertEqual(keeper.look(book), [])
            self.assertEqual(book.all_shown(), [])

    def test_stands_of_may_in_order_and_ties_in_order(self):
        keeper = hand_of(range(10))
        come_to(keeper, 0, (60, 36), ((1, 1, 9, 20), (1, 1, 3, 19), (1, 1, 5, 21), (1, 1, 4, 22)))
        do(keeper, ("settle", 0, 5))
        # In mine word 9 goes first, in what is offered beside it 3 and 2 come too, each once.
        keeper.take(("ask", 0, (61, 35), ((1, 1, 9, 20), (1, 1, 2, 20), (1, 1, 3, 19), (1, 1, 0, 22))))
        self.assertEqual(len(keeper.account(0).may), 2)
        self.assertEqual(
            keeper.look(on_day(18)), [("show", 0, 9), ("show", 0, 3), ("show", 0, 2)]
        )

    def test_tie_of_the_second_stand_alone(self):
        keeper = hand_of([7])
        keeper.take(("ask", 0, (60, 35), ((1, 5, 7, 20),)))
        self.assertEqual(keeper.look(on_day(18)), [("show", 0, 7)])

    def test_tie_whose_day_is_another_one_in_the_second_stand(self):
        keeper = hand_of([7])
        come_to(keeper, 0, (60, 35), ((1, 5, 7, 40),))
        keeper.take(("ask", 0, (60, 35), ((1, 5, 7, 41),)))
        book = on_day(38)
        self.assertEqual(keeper.look(book), [("show", 0, 7)])

    def test_pots_in_order(self):
        keeper = hand_of([7, 8])
        come_to(keeper, 1, (65, 30), ((0, 5, 8, 20),))
        come_to(keeper, 0, (60, 35), ((1, 5, 8, 20),))
        self.assertEqual(keeper.look(on_day(18)), [("show", 0, 8), ("show", 1, 8)])

    def test_stand_that_lies_by_the_other_side(self):
        for pot in (0, 1):
            keeper = self.with_tie(pot)
            account = keeper.account(pot)
            book = on_day(3)
            book.lay(pot, 1 - account.side, account.mine, ("agree", pot, account.side, account.mine))
            for day in (4, 7, 10, 13, 16):
                go_to(book, day)
                self.assertEqual(keeper.look(book), [])
            go_to(book, 17)
            self.assertEqual(keeper.look(book), [("show", pot, 7)])
            self.assertEqual(book.coin_of(0), 65 if pot == 0 else 35)
            self.assertEqual(keeper.worth(), 95)

    def test_stand_that_lies_by_itself(self):
        for pot in (0, 1):
            keeper = self.with_tie(pot)
            keeper.wish(("finish", pot))
            book = on_day(3)
            self.assertEqual(keeper.look(book), [("lay", pot)])
            go_to(book, 19)
            self.assertEqual(keeper.look(book), [("show", pot, 7)])
            self.assertEqual(book.coin_of(0), 65 if pot == 0 else 35)

    def test_of_a_laid_pot_the_other_stand_is_not_shown_for(self):
        keeper = hand_of([7, 8])
        keeper.take(("ask", 0, (60, 35), ((1, 5, 7, 20),)))
        book = on_day(18)
        book.lay(0, 1, (0, (60, 40), ()))
        self.assertEqual(keeper.look(book), [])

    def test_stand_that_was_given_up_and_lies_too_long_is_shown_for(self):
        keeper = self.with_tie(0)
        one = keeper.account(0).mine
        come_to(keeper, 0, (65, 35))
        book = on_day(3)
        book.lay(0, 1, one, ("agree", 0, 0, one))
        go_to(book, 18)
        self.assertEqual(keeper.look(book), [("show", 0, 7)])


class TestLay(KeeperTest):
    def test_first_stand(self):
        for pot in (0, 1):
            keeper = hand_of()
            keeper.wish(("finish", pot))
            book = on_day(2)
            self.assertEqual(keeper.look(book), [("lay", pot)])
            self.assertEqual(book.told(pot), ("laid", keeper.account(pot).side, (0, POTS[pot][2:4], ()), 2))
            self.assertEqual(book.told(1 - pot), ("held",))
            self.assertEqual(keeper.look(book), [])

    def test_with_its_grant(self):
        for pot in (0, 1):
            keeper = hand_of()
            do(keeper, ("give", pot, 10))
            mine = keeper.account(pot).mine
            keeper.wish(("finish", pot))
            book = on_day(2)
            self.assertEqual(keeper.look(book), [("lay", pot)])
            self.assertEqual(book.told(pot), ("laid", keeper.account(pot).side, mine, 2))
            self.assertEqual(mine[0], 1)

    def test_offered_and_waiting(self):
        keeper = hand_of()
        keeper.wish(("give", 0, 10))
        keeper.take(offer(1, (1, (60, 40), ())))
        keeper.wish(("finish", 0))
        keeper.wish(("finish", 1))
        book = on_day(2)
        self.assertEqual(keeper.look(book), [("lay", 0), ("lay", 1)])
        self.assertEqual(book.told(0), ("laid", 0, (0, (60, 40), ()), 2))
        self.assertEqual(book.told(1), ("laid", 1, (1, (60, 40), ()), 2))
        self.assertEqual(keeper.worth(), 100)

    def test_mine_at_the_look_and_not_at_the_wish(self):
        keeper = hand_of()
        keeper.wish(("finish", 0))
        do(keeper, ("give", 0, 10))
        book = on_day(2)
        keeper.look(book)
        self.assertEqual(book.told(0), ("laid", 0, (1, (50, 50), ()), 2))

    def test_not_without_the_wish(self):
        keeper = hand_of()
        self.assertEqual(keeper.look(on_day(2)), [])

    def test_not_where_it_is_no_longer_held(self):
        keeper = hand_of()
        keeper.wish(("finish", 0))
        book = on_day(2)
        book.lay(0, 1, (0, (60, 40), ()))
        self.assertEqual(keeper.look(book), [])
        self.assertEqual(book.told(0)[1], 1)

    def test_not_where_it_was_struck_in_this_look(self):
        keeper = hand_of()
        come_to(keeper, 0, (60, 40))
        keeper.wish(("finish", 0))
        book = on_day(2)
        book.lay(0, 1, (0, (60, 40), ()))
        self.assertEqual(keeper.look(book), [("strike", 0)])

    def test_what_it_laid_it_knows(self):
        keeper = hand_of()
        keeper.wish(("give", 0, 10))
        self.assertEqual(keeper.worth(), 80)
        keeper.wish(("finish", 0))
        keeper.look(on_day(2))
        self.assertIn("claim laid 0 2 0 60 40", kept(keeper))
        self.assertEqual(keeper.worth(), 90)


class TestLookAsAWhole(KeeperTest):
    def test_order_of_deeds_over_several_pots(self):
        pots = [(0, 1, 60, 40, 5), (2, 0, 70, 30, 6), (0, 3, 10, 10, 4)]
        keeper = hand_of([7, 8], pots)
        come_to(keeper, 0, (60, 35), ((1, 5, 7, 20),))
        come_to(keeper, 1, (65, 30), ((0, 5, 8, 20),))
        come_to(keeper, 2, (10, 10))
        come_to(keeper, 2, (10, 10))
        keeper.wish(("finish", 0))
        keeper.wish(("finish", 1))
        keeper.wish(("finish", 2))
        book = on_day(18, pots)
        book.lay(2, 1, (1, (10, 10), ()), ("agree", 2, 0, (1, (10, 10), ())))
        self.assertEqual(
            keeper.look(book), [("strike", 2), ("show", 0, 7), ("show", 1, 8), ("lay", 0), ("lay", 1)]
        )
        self.assertEqual(book.told(0), ("laid", 0, (1, (60, 35), ((1, 5, 7, 20),)), 18))
        self.assertEqual(keeper.worth(), 65 + 35 + 20)

    def test_words_of_all_pots(self):
        keeper = hand_of([9])
        book = on_day(1)
        book.show(2, 5)
        book.show(1, 3)
        book.show(0, 9)
        keeper.look(book)
        self.assertEqual(keeper.words(), [3, 5, 9])

    def test_day_of_the_last_look(self):
        keeper = hand_of()
        book = Book(POTS)
        self.assertEqual(keeper.look(book), [])
        self.assertEqual(keeper.looked(), 0)
        go_to(book, 3)
        self.assertEqual(keeper.looked(), 0)
        keeper.look(book)
        self.assertEqual(keeper.looked(), 3)

    def test_what_it_did_it_knows_as_if_seen(self):
        pots = [(0, 1, 60, 40, 5), (2, 0, 70, 30, 6), (0, 3, 10, 10, 4)]
        keeper = hand_of([7], pots)
        come_to(keeper, 0, (60, 35), ((1, 5, 7, 20),))
        come_to(keeper, 2, (10, 10))
        keeper.wish(("finish", 1))
        book = on_day(18, pots)
        book.lay(2, 1, (0, (10, 10), ()))
        self.assertEqual(len(keeper.look(book)), 3)
        did = state_of(keeper)
        self.assertEqual(keeper.look(book), [])
        self.assertEqual(state_of(keeper), did)

    def test_told_deeds_are_the_askers_own(self):
        keeper = hand_of()
        keeper.wish(("finish", 0))
        book = on_day(2)
        keeper.look(book).append("x")
        self.assertEqual(keeper.look(book), [])

    def test_what_was_seen_is_not_the_books_own(self):
        keeper = hand_of([7])
        come_to(keeper, 0, (60, 35), ((1, 5, 7, 20),))
        book = on_day(18)
        keeper.look(book)
        book.show(0, 9)
        self.assertIn("seen 7/18\n", kept(keeper))

    def test_letters_told_are_the_askers_own(self):
        keeper = hand_of()
        letters = keeper.wish(("give", 0, 1))[1]
        letters.clear()
        self.assertEqual(keeper.wish(("give", 0, 1)), NOTHING)
        keeper.wish(("give", 0, 1))[1].append("x")
        keeper.take(("word", 0, 7)).append("x")
        self.assertEqual(keeper.wish(("give", 0, 1)), NOTHING)
        self.assertEqual(keeper.take(("word", 0, 7)), [])


if __name__ == "__main__":
    unittest.main()
