import unittest

from sidebook.accounts import Account, first_account, offered
from sidebook.book import Book
from sidebook.errors import NoDeed, NoStand
from sidebook.letters import is_letter
from sidebook.stands import deals

P = 1
MOST_NUMBER = 10 ** 6
FIRST = (0, (60, 40), ())
TIE = (0, 5, 7, 12)
# one stand behind the other, all of 100 coins
STANDS = (
    (1, (50, 50), ()),
    (2, (45, 50), (TIE,)),
    (3, (45, 30), (TIE, (1, 20, 8, 20))),
    (4, (45, 55), ()),
)
ONE = STANDS[0]
TWO = STANDS[1]


class Sulky:
    def __eq__(self, other):
        raise RuntimeError("not to be compared")

    __hash__ = None


ANYTHING = (
    None, True, False, 0, 1, "", "offer", "accept", "struck", b"", [], {}, (), set(), object(), len, FIRST, ONE,
    ("agree", P, 0, ONE), ("agree", P, 1, ONE), ("strike", P, 0, 0), ("strike", P, 1, 0), ("word", 7), ("offer",),
    ("offer", P), ("accept", P), ("struck", P), Sulky(), (Sulky(),), (Sulky(), P, ("agree", P, 0, ONE)),
    ("offer", Sulky(), ("agree", P, 0, ONE)), ("offer", P, Sulky()), ("accept", P, Sulky(), Sulky()),
    ("struck", P, Sulky()),
)


def offer(one, pot=P, agree_pot=P, side=0):
    return ("offer", pot, ("agree", agree_pot, side, one))


def accept(one, number, pot=P):
    return ("accept", pot, ("agree", pot, 1, one), ("strike", pot, 1, number))


def struck(number, pot=P):
    return ("struck", pot, ("strike", pot, 0, number))


def values_of(account):
    return (
        account.pot, account.side, account.mine, account.grant, list(account.may), list(account.strikes),
        account.word(),
    )


def lead():
    return first_account(P, 0, 60, 40)


def second():
    return first_account(P, 1, 60, 40)


def lead_offered(one=ONE):
    return offered(lead(), one[1], one[2])[0]


def second_waiting(one=ONE):
    return second().taken(offer(one))[0]


def come_to(stands, pot=P):
    """Both accounts, calm, behind these stands."""
    left = first_account(pot, 0, 60, 40)
    right = first_account(pot, 1, 60, 40)
    for one in stands:
        left, letter = offered(left, one[1], one[2])
        right, letter = right.taken(letter)
        left, letter = left.taken(letter)
        right, letter = right.taken(letter)
    return left, right


class AccountCase(unittest.TestCase):
    def check_stays(self, account, letter):
        with self.subTest(letter=letter, state=account.word(), side=account.side):
            ahead = values_of(account)
            told = account.taken(letter)
            self.assertIs(type(told), tuple)
            self.assertEqual(len(told), 2)
            self.assertEqual(values_of(told[0]), ahead)
            self.assertIsNone(told[1])
            self.assertEqual(values_of(account), ahead)


class TestFirstAccount(unittest.TestCase):
    def test_of_either_side(self):
        for pot in range(3):
            for side in range(2):
                account = first_account(pot, side, 60, 40)
                self.assertEqual(values_of(account), (pot, side, FIRST, None, [FIRST], [], "calm"))
                self.assertIsInstance(account, Account)
                self.assertIs(type(account.may), list)
                self.assertIs(type(account.strikes), list)

    def test_of_coins_at_their_borders(self):
        for left, right in ((0, 0), (10 ** 12, 10 ** 12), (0, 10 ** 12)):
            account = first_account(0, 0, left, right)
            self.assertEqual(account.mine, (0, (left, right), ()))
            self.assertEqual(account.may, [(0, (left, right), ())])

    def test_by_names(self):
        account = first_account(pot=2, side=1, left=3, right=4)
        self.assertEqual(values_of(account), (2, 1, (0, (3, 4), ()), None, [(0, (3, 4), ())], [], "calm"))


class TestOffered(AccountCase):
    def check_refused(self, refusal, account, shares, ties):
        with self.subTest(shares=shares, ties=ties, state=account.word(), side=account.side):
            ahead = values_of(account)
            with self.assertRaises(refusal) as caught:
                offered(account, shares, ties)
            self.assertIs(type(caught.exception), refusal)
            self.assertEqual(values_of(account), ahead)

    def test_the_account_and_the_letter(self):
        account = lead()
        told = offered(account, (50, 50), ())
        self.assertIs(type(told), tuple)
        self.assertEqual(values_of(told[0]), (P, 0, FIRST, None, [FIRST, ONE], [], "offered"))
        self.assertIsInstance(told[0], Account)
        self.assertEqual(told[1], ("offer", P, ("agree", P, 0, ONE)))
        self.assertTrue(is_letter(told[1]))
        self.assertEqual(values_of(account), (P, 0, FIRST, None, [FIRST], [], "calm"))

    def test_by_names(self):
        told = offered(account=lead(), shares=(45, 50), ties=(TIE,))
        self.assertEqual(told[1], offer((1, (45, 50), (TIE,))))

    def test_of_each_pot(self):
        for pot in range(3):
            told = offered(first_account(pot, 0, 60, 40), (50, 50), ())
            self.assertEqual(told[0].pot, pot)
            self.assertEqual(told[1], ("offer", pot, ("agree", pot, 0, ONE)))

    def test_behind_other_stands_the_number_and_the_grant_go_on(self):
        left = come_to(STANDS[:2])[0]
        told = offered(left, STANDS[2][1], STANDS[2][2])
        grant = ("agree", P, 1, TWO)
        self.assertEqual(values_of(told[0]), (P, 0, TWO, grant, [TWO, STANDS[2]], [0, 1], "offered"))
        self.assertEqual(told[1], offer(STANDS[2]))

    def test_the_same_shares_and_ties_again(self):
        told = offered(lead(), (60, 40), ())
        self.assertEqual(told[0].may, [FIRST, (1, (60, 40), ())])

    def test_stands_at_their_borders(self):
        six = tuple((k % 2, 1, k, 9) for k in range(6))
        for shares, ties in (((100, 0), ()), ((0, 100), ()), ((0, 94), six), ((0, 0), ((0, 100, 59, 10 ** 6),))):
            self.assertEqual(offered(lead(), shares, ties)[0].may[1], (1, shares, ties))

    def test_side_1_never_offers(self):
        for account in (second(), second_waiting(), come_to(STANDS[:2])[1]):
            self.check_refused(NoDeed, account, (50, 50), ())

    def test_who_is_not_calm_does_not_offer(self):
        self.check_refused(NoDeed, lead_offered(), (50, 50), ())
        left = come_to(STANDS[:2])[0]
        self.check_refused(NoDeed, offered(left, (50, 50), ())[0], (50, 50), ())

    def no_stands(self):
        seven = tuple((0, 1, k, 9) for k in range(7))
        return (
            ((50, 51), ()), ((50, 49), ()), ((50, 50), (TIE,)), ((0, 0), ()), ((101, -1), ()), ((-1, 101), ()),
            ((0, 93), seven), ((45, 45), (TIE, (1, 5, 7, 30))), ((45, 50), ((0, 5, 60, 12),)),
            ((45, 50), ((2, 5, 7, 12),)), ((45, 50), ((0, 5, 7, 10 ** 6 + 1),)), ((100, 0), ((0, 0, 7, 12),)),
            ((105, 0), ((0, -5, 7, 12),)), ((100,), ()), ((50, 25, 25), ()), ([50, 50], ()), ((50, 50), []),
            ((50, 50), None), (None, ()), ((99, True), ()), ((50, 50), ((),)),
        )

    def test_what_is_no_stand_of_the_pot(self):
        for shares, ties in self.no_stands():
            self.check_refused(NoStand, lead(), shares, ties)
            self.check_refused(NoStand, come_to(STANDS[:2])[0], shares, ties)

    def test_no_deed_comes_ahead_of_no_stand(self):
        for shares, ties in self.no_stands():
            for account in (second(), second_waiting(), lead_offered()):
                self.check_refused(NoDeed, account, shares, ties)

    def test_a_number_above_its_bound(self):
        last = (MOST_NUMBER, (60, 40), ())
        calm = lead()
        made = calm.__class__(P, 0, last, ("agree", P, 1, last), [last], [])
        self.check_refused(NoStand, made, (50, 50), ())
        ahead = (MOST_NUMBER - 1, (60, 40), ())
        made = calm.__class__(P, 0, ahead, ("agree", P, 1, ahead), [ahead], [])
        self.assertEqual(offered(made, (50, 50), ())[0].may, [ahead, (MOST_NUMBER, (50, 50), ())])


class TestTaken(AccountCase):
    def test_an_offer(self):
        account = second()
        behind, answer = account.taken(offer(ONE))
        self.assertEqual(values_of(behind), (P, 1, ONE, ("agree", P, 0, ONE), [FIRST, ONE], [], "waiting"))
        self.assertEqual(answer, ("accept", P, ("agree", P, 1, ONE), ("strike", P, 1, 0)))
        self.assertTrue(is_letter(answer))
        self.assertEqual(values_of(account), (P, 1, FIRST, None, [FIRST], [], "calm"))

    def test_an_accept(self):
        account = lead_offered()
        behind, answer = account.taken(accept(ONE, 0))
        self.assertEqual(values_of(behind), (P, 0, ONE, ("agree", P, 1, ONE), [ONE], [0], "calm"))
        self.assertEqual(answer, ("struck", P, ("strike", P, 0, 0)))
        self.assertTrue(is_letter(answer))
        self.assertEqual(values_of(account), (P, 0, FIRST, None, [FIRST, ONE], [], "offered"))

    def test_a_struck(self):
        account = second_waiting()
        behind, answer = account.taken(struck(0))
        self.assertEqual(values_of(behind), (P, 1, ONE, ("agree", P, 0, ONE), [ONE], [0], "calm"))
        self.assertIsNone(answer)
        self.assertEqual(values_of(account), (P, 1, ONE, ("agree", P, 0, ONE), [FIRST, ONE], [], "waiting"))

    def test_by_name(self):
        self.assertEqual(second().taken(letter=offer(ONE))[1], accept(ONE, 0))
        self.assertEqual(lead_offered().taken(letter=accept(ONE, 0))[1], struck(0))
        self.assertEqual(second_waiting().taken(letter=struck(0))[0].word(), "calm")

    def test_one_stand_behind_the_other(self):
        for pot in range(3):
            left = first_account(pot, 0, 60, 40)
            right = first_account(pot, 1, 60, 40)
            old = FIRST
            grants = (None, None)
            for n, one in enumerate(STANDS):
                gone = list(range(n))
                left, letter = offered(left, one[1], one[2])
                self.assertEqual(letter, offer(one, pot, pot))
                self.assertEqual(values_of(left), (pot, 0, old, grants[0], [old, one], gone, "offered"))
                right, letter = right.taken(letter)
                self.assertEqual(letter, accept(one, n, pot))
                grants = (("agree", pot, 1, one), ("agree", pot, 0, one))
                self.assertEqual(values_of(right), (pot, 1, one, grants[1], [old, one], gone, "waiting"))
                left, letter = left.taken(letter)
                self.assertEqual(letter, struck(n, pot))
                self.assertEqual(values_of(left), (pot, 0, one, grants[0], [one], gone + [n], "calm"))
                right, letter = right.taken(letter)
                self.assertIsNone(letter)
                self.assertEqual(values_of(right), (pot, 1, one, grants[1], [one], gone + [n], "calm"))
                old = one

    def test_the_lead_may_offer_again_while_the_other_waits(self):
        # the lead is calm behind the accept; its struck is still on the way
        left, letter = lead_offered().taken(accept(ONE, 0))
        left, letter = offered(left, TWO[1], TWO[2])
        self.check_stays(second_waiting(), letter)
        right = second_waiting().taken(struck(0))[0]
        self.assertEqual(right.taken(letter)[1], accept(TWO, 1))

    def test_offers_that_do_not_fit(self):
        wrong = [
            offer(ONE, 0, P), offer(ONE, 2, P), offer(ONE, P, 0), offer(ONE, P, 2), offer(ONE, 0, 0), offer(ONE, 2, 2),
            offer(ONE, P, P, 1), offer(FIRST), offer((0, (50, 50), ())), offer((2, (50, 50), ())), offer(TWO),
            offer((MOST_NUMBER, (50, 50), ())), offer((1, (50, 51), ())), offer((1, (50, 49), ())),
            offer((1, (50, 50), (TIE,))), offer((True, (50, 50), ())), offer((1, (101, -1), ())),
            offer((1, [50, 50], ())), ("offer", True, ("agree", P, 0, ONE)), ("offer", P, ("agree", P, False, ONE)),
            ("offer", P, ("agree", True, 0, ONE)), ("offer", P, ("strike", P, 0, 1)), offer(ONE) + (0,),
            offer(ONE)[:2], list(offer(ONE)), ("offer", P, list(offer(ONE)[2])), ("offer", P, ONE),
        ]
        for letter in wrong:
            self.check_stays(second(), letter)

    def test_offers_that_do_not_fit_behind_other_stands(self):
        right = come_to(STANDS[:2])[1]
        for one in (FIRST, ONE, TWO, STANDS[3], (3, (50, 51), ())):
            self.check_stays(right, offer(one))
        self.assertEqual(right.taken(offer(STANDS[2]))[0].mine, STANDS[2])

    def test_accepts_that_do_not_fit(self):
        agree = ("agree", P, 1, ONE)
        strike = ("strike", P, 1, 0)
        wrong = [
            ("accept", 0, agree, strike), ("accept", 2, agree, strike), ("accept", True, agree, strike),
            ("accept", P, ("agree", 0, 1, ONE), strike), ("accept", P, ("agree", P, 0, ONE), strike),
            ("accept", P, ("agree", P, 1, TWO), strike), ("accept", P, ("agree", P, 1, FIRST), strike),
            ("accept", P, ("agree", P, 1, (1, (51, 49), ())), strike), ("accept", P, agree, ("strike", 0, 1, 0)),
            ("accept", P, agree, ("strike", P, 0, 0)), ("accept", P, agree, ("strike", P, 1, 1)),
            ("accept", P, agree, ("strike", P, 1, False)), ("accept", P, ("agree", P, True, ONE), strike),
            ("accept", P, ("agree", P, 1, (True, (50, 50), ())), strike), ("accept", P, strike, agree),
            ("accept", P, agree), ("accept", P, agree, strike, None), ["accept", P, agree, strike],
            ("accept", P, agree, agree), ("accept", P, strike, strike), accept(ONE, 0, 0), accept(ONE, 0, 2),
        ]
        for letter in wrong:
            self.check_stays(lead_offered(), letter)

    def test_strucks_that_do_not_fit(self):
        wrong = [
            struck(1), struck(2), struck(MOST_NUMBER), struck(0, 0), struck(0, 2), ("struck", 0, ("strike", P, 0, 0)),
            ("struck", P, ("strike", 0, 0, 0)), ("struck", P, ("strike", P, 1, 0)), ("struck", P, ("strike", P, 0, False)),
            ("struck", P, ("strike", P, False, 0)), ("struck", True, ("strike", P, 0, 0)), ("struck", P), struck(0) + (0,),
            list(struck(0)), ("struck", P, ("agree", P, 0, FIRST)), ("struck", P, 0),
        ]
        for letter in wrong:
            self.check_stays(second_waiting(), letter)

    def test_a_struck_of_the_new_stand_or_an_older_one(self):
        right = come_to(STANDS[:2])[1].taken(offer(STANDS[2]))[0]
        for number in (0, 1, 3, 4):
            self.check_stays(right, struck(number))
        self.assertEqual(right.taken(struck(2))[0].strikes, [0, 1, 2])

    def test_letters_that_fit_another_state_or_side(self):
        for letter in (accept(ONE, 0), struck(0), offer(ONE)):
            self.check_stays(lead(), letter)
        for letter in (accept(ONE, 0), struck(0)):
            self.check_stays(second(), letter)
        for letter in (offer(ONE), offer(TWO), struck(0)):
            self.check_stays(lead_offered(), letter)
        for letter in (offer(ONE), offer(TWO), accept(ONE, 0), accept(TWO, 1)):
            self.check_stays(second_waiting(), letter)

    def test_a_letter_twice(self):
        left, right = come_to(STANDS[:1])
        self.check_stays(left, accept(ONE, 0))
        self.check_stays(right, offer(ONE))
        self.check_stays(right, struck(0))

    def test_asks_and_words_change_nothing(self):
        for account in (lead(), second(), lead_offered(), second_waiting()):
            for letter in (("ask", P, (50, 50), ()), ("word", P, 7), ("ask", 0, (50, 50), ()), ("word", 0, 7)):
                self.check_stays(account, letter)

    def test_anything_at_all(self):
        left, right = come_to(STANDS[:2])
        for account in (lead(), second(), lead_offered(), second_waiting(), left, right):
            for thing in ANYTHING:
                self.check_stays(account, thing)

    def test_a_first_offer_of_number_1_as_a_truth(self):
        self.check_stays(second(), ("offer", P, ("agree", P, 0, (True, (50, 50), ()))))


class TestWhatHolds(unittest.TestCase):
    def letters(self):
        told = []
        for n, one in enumerate((FIRST,) + STANDS):
            other = (one[0], (one[1][0] - 1, one[1][1] + 1), one[2])
            for stand in (one, other):
                told += [offer(stand), accept(stand, n), accept(stand, max(n - 1, 0))]
            told.append(struck(n))
        return told

    def ways(self):
        """All accounts that some letters and offers lead to, in a few steps, with the letters they gave."""
        waiting = [(lead(), []), (second(), [])]
        for _ in range(6):
            behind = []
            for account, gave in waiting:
                for letter in self.letters():
                    new, answer = account.taken(letter)
                    if new is not account:
                        behind.append((new, gave + [answer]))
                if account.side == 0 and account.word() == "calm":
                    for one in STANDS[:2]:
                        new, letter = offered(account, one[1], one[2])
                        behind.append((new, gave + [letter]))
            yield from behind
            waiting = behind

    def test_mine_is_always_one_of_may(self):
        told = list(self.ways())
        self.assertGreater(len(told), 20)
        for account, gave in told:
            self.assertIn(account.mine, account.may)
            self.assertEqual(len(account.may), 1 if account.word() == "calm" else 2)

    def test_no_two_unlike_stands_of_one_number(self):
        for account, gave in self.ways():
            numbers = [one[0] for one in account.may]
            self.assertEqual(len(set(numbers)), len(numbers))
            self.assertTrue(all(deals(one) == 100 for one in account.may))

    def test_strikes_rise(self):
        for account, gave in self.ways():
            self.assertEqual(account.strikes, sorted(set(account.strikes)))

    def test_no_strike_is_given_of_mine(self):
        for account, gave in self.ways():
            given = [thing[3] for letter in gave if letter for thing in letter[2:] if thing[0] == "strike"]
            self.assertNotIn(account.mine[0], given)

    def test_grant_is_the_other_side_s_agreement_to_mine(self):
        for account, gave in self.ways():
            if account.mine == FIRST:
                self.assertIsNone(account.grant)
            else:
                self.assertEqual(account.grant, ("agree", P, 1 - account.side, account.mine))

    def test_mine_can_be_laid_down_with_grant_in_any_state(self):
        for account, gave in self.ways():
            book = Book([(2, 3, 1, 1, 1), (0, 1, 60, 40, 5)])
            book.lay(P, account.side, account.mine, account.grant)
            self.assertEqual(book.told(P), ("laid", account.side, account.mine, 0))

    def test_asked_again_it_answers_the_same(self):
        for account, gave in self.ways():
            for letter in self.letters():
                one = account.taken(letter)
                two = account.taken(letter)
                self.assertEqual(values_of(one[0]), values_of(two[0]))
                self.assertEqual(one[1], two[1])


if __name__ == "__main__":
    unittest.main()
