import unittest

from sidebook.book import Book
from sidebook.errors import NoDeed, NoPot, NoSpan, NoStand
from sidebook.hall import Hall
from sidebook.keeper import Keeper
from sidebook.kept import kept
from sidebook.stands import first

# Hands 0 and 1 keep, 2 and 3 are the band: pot 0 lies between keeping hands, pot 1 between hand 1 and the band.
POTS = [(0, 1, 60, 40, 5), (1, 2, 70, 30, 6), (2, 3, 10, 20, 4)]
# Here hand 0 keeps, and the band is the lead of pot 0 and the other side of pot 1.
MIXED = [(1, 0, 60, 40, 5), (0, 2, 70, 30, 6), (2, 1, 10, 20, 4)]
EVERY = 3
BIG = 10 ** 29


def hall_of(words=None, pots=POTS, keeps=(0, 1), every=EVERY):
    return Hall(list(pots), list(keeps), every, words)


def mixed(words=None):
    return hall_of(words, MIXED, (0,))


def offer(pot, one):
    return ("offer", pot, ("agree", pot, 0, one))


def accept(pot, one):
    return ("accept", pot, ("agree", pot, 1, one), ("strike", pot, 1, one[0] - 1))


def struck(pot, number):
    return ("struck", pot, ("strike", pot, 0, number))


def state_of(hall):
    """All that can be asked of a hall, but what the band has."""
    book = hall.book()
    pots = range(len(book.made_of()))
    keeping = []
    for hand in range(4):
        try:
            keeping.append(kept(hall.keeper(hand)))
        except NoDeed:
            keeping.append(None)
    return (
        book.today(), [book.told(pot) for pot in pots], [book.shown_for(pot) for pot in pots], hall.road(), keeping,
        [hall.coin(hand) for hand in range(4)],
    )


def go_to(hall, day):
    while hall.book().today() < day:
        hall.next_day()


def first_of(pot, pots=POTS):
    return first(pots[pot][2], pots[pot][3])


class HallTest(unittest.TestCase):
    def check_refused(self, hall, deed, refusal=NoDeed):
        before = state_of(hall)
        things = dict(hall.things)
        with self.assertRaises(refusal):
            deed()
        self.assertEqual(state_of(hall), before)
        self.assertEqual(hall.things, things)


class TestMade(HallTest):
    def test_refused_as_the_book_is(self):
        for pots, pot in (
            ([(0, 0, 1, 1, 5)], 0), ([POTS[0], (0, 4, 1, 1, 5)], 1), (POTS + [POTS[0]], 3), ([POTS[0], None], 1),
            ([(0, 1, 10 ** 12 + 1, 1, 5)], 0), ([(0, 1, 1, 1, 101)], 0), ([(0, 1, 1, 1, 0)], 0),
        ):
            with self.assertRaises(NoPot) as caught:
                Hall(pots, [0, 1], EVERY)
            self.assertEqual(caught.exception.pot, pot)

    def test_no_pot_ahead_of_no_span(self):
        for every in (0, 51, EVERY):
            with self.assertRaises(NoPot):
                Hall([(0, 1, 60, 40, 2), (0, 0, 1, 1, 5)], [0], every)

    def test_refused_as_the_keeping_hands_are(self):
        for every in (0, 51, -1, BIG):
            with self.assertRaises(NoSpan):
                Hall(POTS, [0], every)
            with self.assertRaises(NoSpan):
                Hall(POTS, [3], every)
        for keeps in ([0], [1], [3, 1], [0, 1, 2, 3]):
            with self.assertRaises(NoSpan):
                Hall([(2, 3, 1, 1, 50), (0, 1, 60, 40, 3)], keeps, 3)
        Hall([(2, 3, 1, 1, 50), (0, 1, 60, 40, 3)], [2, 3], 3)
        Hall([(2, 3, 1, 1, 50), (0, 1, 60, 40, 4)], [0, 1, 2, 3], 3)

    def test_every_at_its_borders(self):
        pots = [(0, 1, 60, 40, 51)]
        for every in (1, 50):
            self.assertEqual(Hall(pots, [0, 1], every).keeper(1).worth(), 40)

    def test_nobody_keeps(self):
        hall = Hall(POTS, [], EVERY)
        for hand in range(4):
            with self.assertRaises(NoDeed):
                hall.keeper(hand)
        hall.lay(0, 0, first_of(0))
        self.assertEqual(hall.book().told(0)[0], "laid")

    def test_book_and_keepers(self):
        hall = hall_of()
        self.assertIsInstance(hall.book(), Book)
        self.assertEqual(hall.book().made_of(), POTS)
        for hand, coin in ((0, 60), (1, 110)):
            self.assertIsInstance(hall.keeper(hand), Keeper)
            self.assertEqual(hall.keeper(hand).worth(), coin)
        for hand in (2, 3, 4, -1, BIG):
            with self.assertRaises(NoDeed):
                hall.keeper(hand)
        self.assertEqual(hall.road(), [])

    def test_the_book_is_the_halls_own(self):
        hall = hall_of()
        hall.next_day()
        self.assertEqual(hall.book().today(), 1)
        hall.book().show(0, 7)
        hall.look(0)
        self.assertEqual(hall.keeper(0).words(), [7])

    def test_a_hand_told_twice_and_in_any_order(self):
        hall = Hall(POTS, [1, 0, 1], EVERY)
        self.assertEqual([hall.keeper(hand).worth() for hand in (0, 1)], [60, 110])
        self.assertTrue(hall.wish(0, ("give", 0, 10)))
        self.assertEqual(len(hall.road()), 1)

    def test_words_at_first(self):
        hall = hall_of({7: 0, 8: 1, 9: 2, 10: 3, 3: 0})
        self.assertEqual(hall.keeper(0).words(), [3, 7])
        self.assertEqual(hall.keeper(1).words(), [8])
        for word in (9, 10):
            hall.show(0, word)
        for word in (3, 7, 8, 11):
            self.check_refused(hall, lambda: hall.show(0, word))
        self.assertEqual(hall.book().all_shown(), [9, 10])

    def test_no_words_at_first(self):
        for hall in (Hall(POTS, [0, 1], EVERY), Hall(POTS, [0, 1], EVERY, None), Hall(POTS, [0, 1], EVERY, {})):
            self.assertEqual(hall.keeper(0).words() + hall.keeper(1).words(), [])
            for word in range(60):
                self.check_refused(hall, lambda: hall.show(0, word))

    def test_what_is_changed_behind_changes_nothing(self):
        pots, keeps, words = list(POTS), [0, 1], {7: 0, 9: 2}
        hall = Hall(pots, keeps, EVERY, words)
        before = state_of(hall)
        pots[0] = (2, 3, 1, 1, 5)
        pots.pop()
        keeps.remove(1)
        keeps.append(2)
        words[8] = 2
        words[7] = 2
        self.assertEqual(state_of(hall), before)
        self.assertEqual(hall.keeper(1).worth(), 110)
        for word in (7, 8):
            self.check_refused(hall, lambda: hall.show(0, word))
        self.assertTrue(hall.wish(0, ("give", 0, 1)))
        self.assertEqual(hall.road()[0][0], 1)
        self.check_refused(hall, lambda: hall.lay(0, 0, first_of(0)))

    def test_nothing_handed_in_is_changed(self):
        pots, keeps, words = list(POTS), [1, 0, 1], {7: 0, 9: 2}
        hall = Hall(pots, keeps, EVERY, words)
        hall.wish(0, ("give", 0, 1))
        hall.show(0, 9)
        go_to(hall, 5)
        self.assertEqual((pots, keeps, words), (POTS, [1, 0, 1], {7: 0, 9: 2}))

    def test_told_road_is_the_askers_own(self):
        hall = hall_of()
        hall.wish(0, ("give", 0, 1))
        hall.road().clear()
        self.assertEqual(len(hall.road()), 1)

    def test_arguments_by_name(self):
        hall = Hall(pots=POTS, keeps=[0, 1], every=EVERY, words={7: 2})
        self.assertTrue(hall.wish(hand=0, wish=("give", 0, 1)))
        hall.deliver(k=0)
        hall.lose(k=0)
        hall.band(letter=("word", 1, 7))
        hall.show(P=0, W=7)
        hall.lay(P=2, side=0, stand=first_of(2))
        with self.assertRaises(NoDeed):
            hall.strike(P=0, side=2)
        self.assertEqual(hall.look(hand=0), [])
        self.assertEqual(hall.coin(hand=0), 0)
        self.assertEqual(hall.keeper(hand=0).looked(), 0)


class TestRoad(HallTest):
    def test_whole_way_of_a_gift(self):
        hall = hall_of()
        one = (1, (50, 50), ())
        self.assertIs(hall.wish(0, ("give", 0, 10)), True)
        self.assertEqual(hall.road(), [(1, offer(0, one))])
        self.assertIsNone(hall.deliver(0))
        self.assertEqual(hall.road(), [(0, accept(0, one))])
        self.assertIsNone(hall.deliver(0))
        self.assertEqual(hall.road(), [(1, struck(0, 0))])
        self.assertIsNone(hall.deliver(0))
        self.assertEqual(hall.road(), [])
        for hand in (0, 1):
            self.assertEqual(hall.keeper(hand).account(0).mine, one)
            self.assertEqual(hall.keeper(hand).account(0).word(), "calm")
        self.assertEqual((hall.keeper(0).worth(), hall.keeper(1).worth()), (50, 120))

    def test_whole_way_of_an_ask(self):
        hall = hall_of()
        self.assertIs(hall.wish(1, ("give", 0, 10)), True)
        self.assertEqual(hall.road(), [(0, ("ask", 0, (70, 30), ()))])
        for count in range(4):
            hall.deliver(0)
        self.assertEqual(hall.road(), [])
        self.assertEqual(hall.keeper(0).account(0).mine, (1, (70, 30), ()))
        self.assertEqual((hall.keeper(1).given(), hall.keeper(0).worth()), (10, 70))

    def test_eldest_first(self):
        hall = hall_of({7: 0}, [(0, 1, 60, 40, 5), (1, 0, 70, 30, 5), (0, 3, 5, 5, 5)])
        hall.wish(0, ("give", 0, 10))
        hall.wish(1, ("give", 1, 20))
        left, right = (1, offer(0, (1, (50, 50), ()))), (0, offer(1, (1, (50, 50), ())))
        self.assertEqual(hall.road(), [left, right])
        hall.deliver(1)
        self.assertEqual(hall.road(), [left, (1, accept(1, (1, (50, 50), ())))])
        hall.deliver(0)
        self.assertEqual(hall.road(), [(1, accept(1, (1, (50, 50), ()))), (0, accept(0, (1, (50, 50), ())))])

    def test_word_goes_ahead_of_the_other_letter(self):
        hall = hall_of({7: 1})
        hall.wish(0, ("pay", 0, 5, 7, 20))
        for count in range(3):
            hall.deliver(0)
        self.assertTrue(hall.wish(1, ("settle", 0, 7)))
        self.assertEqual(hall.road(), [(0, ("word", 0, 7)), (0, ("ask", 0, (55, 45), ()))])
        hall.deliver(0)
        self.assertEqual(hall.keeper(0).words(), [7])
        self.assertEqual(hall.road(), [(0, ("ask", 0, (55, 45), ()))])

    def test_delivered_and_stays(self):
        hall = hall_of()
        hall.wish(0, ("give", 0, 10))
        letter = hall.road()[0]
        self.assertIsNone(hall.deliver(0, True))
        one = (1, (50, 50), ())
        self.assertEqual(hall.road(), [letter, (0, accept(0, one))])
        self.assertEqual(hall.keeper(1).account(0).word(), "waiting")
        hall.deliver(0, True)
        self.assertEqual(hall.road(), [letter, (0, accept(0, one))])
        hall.deliver(0, False)
        self.assertEqual(hall.road(), [(0, accept(0, one))])

    def test_stays_in_its_place(self):
        hall = hall_of({}, [(0, 1, 60, 40, 5), (1, 0, 70, 30, 5)])
        hall.wish(0, ("give", 0, 10))
        hall.wish(1, ("give", 1, 20))
        before = hall.road()
        hall.deliver(1, True)
        self.assertEqual(hall.road()[:2], before)
        self.assertEqual(len(hall.road()), 3)

    def test_lost(self):
        hall = hall_of({}, [(0, 1, 60, 40, 5), (1, 0, 70, 30, 5)])
        hall.wish(0, ("give", 0, 10))
        hall.wish(1, ("give", 1, 20))
        before = hall.road()
        keeping = kept(hall.keeper(1))
        self.assertIsNone(hall.lose(0))
        self.assertEqual(hall.road(), [before[1]])
        self.assertEqual(kept(hall.keeper(1)), keeping)
        hall.lose(0)
        self.assertEqual(hall.road(), [])

    def test_no_such_letter(self):
        hall = hall_of({}, [(0, 1, 60, 40, 5), (1, 0, 70, 30, 5)])
        for k in (0, 1, -1):
            self.check_refused(hall, lambda: hall.deliver(k))
            self.check_refused(hall, lambda: hall.deliver(k, True))
            self.check_refused(hall, lambda: hall.lose(k))
        hall.wish(0, ("give", 0, 10))
        hall.wish(1, ("give", 1, 20))
        for k in (2, 3, -1, -2, BIG, -BIG):
            self.check_refused(hall, lambda: hall.deliver(k))
            self.check_refused(hall, lambda: hall.deliver(k, True))
            self.check_refused(hall, lambda: hall.lose(k))

    def test_what_goes_to_the_band_is_not_on_the_road(self):
        hall = hall_of()
        self.assertTrue(hall.wish(1, ("give", 1, 10)))
        self.assertEqual(hall.road(), [])
        hall.lay(1, 1, (1, (60, 40), ()))
        self.assertEqual(hall.book().told(1), ("laid", 1, (1, (60, 40), ()), 0))


class TestWish(HallTest):
    def test_not_taken(self):
        hall = hall_of()
        before = state_of(hall)
        for hand, wish in ((0, ("give", 0, 61)), (0, ("give", 1, 1)), (0, ("give", 3, 1)), (1, ("pass", 0, 1, 7, 9)),
                           (1, ("settle", 1, 7)), (1, ("drop", 1, 7)), (0, ("finish", 2))):
            self.assertIs(hall.wish(hand, wish), False)
        self.assertEqual(state_of(hall), before)

    def test_finish(self):
        hall = hall_of()
        self.assertIs(hall.wish(0, ("finish", 0)), True)
        self.assertEqual(hall.road(), [])
        self.assertEqual(hall.look(0), [("lay", 0)])

    def test_hand_that_does_not_keep(self):
        hall = hall_of()
        for hand in (2, 3, 4, -1, BIG):
            for wish in (("give", 1, 1), ("give", 0, 1), ("finish", 2)):
                self.check_refused(hall, lambda: hall.wish(hand, wish))
            self.check_refused(hall, lambda: hall.look(hand))


class TestBand(HallTest):
    def test_offer_of_the_band(self):
        hall = mixed()
        one = (1, (50, 50), ())
        self.assertIsNone(hall.band(offer(0, one)))
        self.assertEqual(hall.keeper(0).account(0).word(), "waiting")
        self.assertEqual(hall.road(), [])
        self.assertIsNone(hall.band(struck(0, 0)))
        self.assertEqual(hall.keeper(0).account(0).mine, one)
        self.assertEqual(hall.keeper(0).account(0).word(), "calm")

    def test_ask_and_accept_of_the_band(self):
        hall = mixed()
        one = (1, (80, 20), ())
        hall.band(("ask", 1, (80, 20), ()))
        self.assertEqual(hall.keeper(0).account(1).may, [(0, (70, 30), ()), one])
        hall.band(accept(1, one))
        self.assertEqual(hall.keeper(0).account(1).mine, one)

    def test_answers_come_into_the_bands_things(self):
        hall = mixed()
        one = (1, (50, 50), ())
        self.check_refused(hall, lambda: hall.lay(0, 0, one))
        hall.band(offer(0, one))
        hall.lay(0, 0, one)
        self.assertEqual(hall.book().told(0), ("laid", 0, one, 0))

    def test_no_letter(self):
        hall = mixed({7: 1})
        for thing in (None, 0, (), "word", ("word", 7), ("word", 3, 7), ("word", -1, 7), ("word", 0, 60),
                      ("word", 0, 7, 7),
                      ["word", 0, 7], ("give", 0, 1), ("ask", 0, (1, 2)), ("offer", 0, ("strike", 0, 0, 0)),
                      ("offer", 0),
                      ("struck", 0, ("agree", 0, 0, (1, (50, 50), ()))), ("word", 0, True), object(), {}, [],
                      ("ask", 0, (60, 40), [])):
            self.check_refused(hall, lambda: hall.band(thing))

    def test_pot_whose_hands_both_keep_or_both_do_not(self):
        hall = hall_of({7: 2})
        for pot in (0, 2):
            self.check_refused(hall, lambda: hall.band(("ask", pot, first_of(pot)[1], ())))
            self.check_refused(hall, lambda: hall.band(("word", pot, 7)))
        hall.band(("word", 1, 7))
        self.assertEqual(hall.keeper(1).words(), [7])
        self.assertEqual(hall.keeper(0).words(), [])

    def test_coin_is_no_hand(self):
        hall = Hall([(0, 2, 0, 0, 5), (2, 3, 0, 0, 5)], [0], EVERY, {7: 2})
        hall.band(("word", 0, 7))
        self.assertEqual(hall.keeper(0).words(), [7])
        self.check_refused(hall, lambda: hall.band(("word", 1, 7)))

    def test_pot_that_there_is_not(self):
        hall = Hall([(0, 1, 60, 40, 5)], [0], EVERY, {7: 1})
        for pot in (1, 2):
            self.check_refused(hall, lambda: hall.band(("word", pot, 7)))
            self.check_refused(hall, lambda: hall.band(("ask", pot, (60, 40), ())))
        hall.band(("word", 0, 7))
        self.assertEqual(hall.keeper(0).words(), [7])

    def test_things_at_each_place(self):
        one = (1, (80, 20), ())
        makes_agree, makes_strike = ("agree", 1, 1, one), ("strike", 1, 1, 0)
        no_agree, no_strike = ("agree", 1, 0, one), ("strike", 1, 0, 0)
        hall = mixed()
        for letter in (
            ("offer", 1, no_agree), ("accept", 1, no_agree, makes_strike), ("accept", 1, makes_agree, no_strike),
            ("accept", 1, no_agree, no_strike), ("struck", 1, no_strike), ("word", 1, 7), ("offer", 0, no_agree),
            ("struck", 0, no_strike), ("struck", 0, ("strike", 0, 1, 0)), ("offer", 0, ("agree", 0, 1, one)),
        ):
            self.check_refused(hall, lambda: hall.band(letter))
        before = state_of(hall)
        for letter in (
            ("offer", 1, makes_agree), ("accept", 1, makes_agree, makes_strike), ("struck", 1, makes_strike),
            ("offer", 0, makes_agree), ("offer", 0, ("agree", 2, 0, one)), ("struck", 0, ("strike", 2, 1, 9)),
            ("accept", 0, ("agree", 0, 0, one), ("strike", 2, 0, 1)),
        ):
            self.assertIsNone(hall.band(letter))
        self.assertEqual(state_of(hall), before)

    def test_things_that_it_has(self):
        hall = mixed()
        hall.wish(0, ("give", 1, 10))
        one = (1, (60, 40), ())
        letters = (("offer", 1, ("agree", 1, 0, one)), ("struck", 1, ("strike", 1, 0, 0)))
        hall.band(letters[0])
        self.check_refused(hall, lambda: hall.band(letters[1]))
        self.check_refused(hall, lambda: hall.band(("offer", 1, ("agree", 1, 0, (1, (61, 39), ())))))
        hall.band(accept(1, one))
        for letter in letters:
            hall.band(letter)
        for number in (1, 2):
            self.check_refused(hall, lambda: hall.band(("struck", 1, ("strike", 1, 0, number))))
        self.assertEqual(hall.keeper(0).account(1).mine, one)

    def test_things_of_an_accept_that_was_sent_to_it(self):
        hall = mixed()
        one = (1, (50, 50), ())
        hall.band(offer(0, one))
        before = state_of(hall)
        hall.band(("offer", 0, ("agree", 0, 1, one)))
        hall.band(("struck", 0, ("strike", 0, 1, 0)))
        hall.band(("accept", 0, ("agree", 0, 1, one), ("strike", 0, 1, 0)))
        self.assertEqual(state_of(hall), before)
        self.check_refused(hall, lambda: hall.band(("struck", 0, ("strike", 0, 1, 1))))

    def test_things_of_a_letter_on_the_road_it_has_not(self):
        hall = hall_of({}, [(0, 1, 60, 40, 5), (1, 2, 70, 30, 6)])
        hall.wish(0, ("give", 0, 10))
        for count in range(3):
            letter = hall.road()[0][1]
            for thing in letter[2:]:
                kind = "offer" if thing[0] == "agree" else "struck"
                self.check_refused(hall, lambda: hall.band((kind, 1, thing)))
            hall.deliver(0)

    def test_pot_that_the_book_has_not_in_a_thing(self):
        hall = Hall([(1, 0, 60, 40, 5)], [0], EVERY)
        one = (1, (50, 50), ())
        for thing in (("agree", 1, 0, one), ("agree", 2, 1, one)):
            self.check_refused(hall, lambda: hall.band(("offer", 0, thing)))
        self.check_refused(hall, lambda: hall.band(("struck", 0, ("strike", 1, 0, 0))))

    def test_an_ask_hands_nothing_over(self):
        hall = mixed()
        hall.band(("ask", 1, (70, 25), ((1, 5, 7, 12),)))
        self.assertEqual(len(hall.keeper(0).account(1).may), 2)
        self.check_refused(hall, lambda: hall.show(1, 7))


class TestWordsOfTheBand(HallTest):
    def test_shown_for_any_pot(self):
        hall = hall_of({7: 0}, keeps=(0, 1))
        self.check_refused(hall, lambda: hall.show(2, 7))
        self.check_refused(hall, lambda: hall.band(("word", 1, 7)))
        hall.book().show(0, 7)
        self.assertIsNone(hall.show(2, 7))
        self.assertEqual(hall.book().shown_for(2), {7: 0})
        hall.band(("word", 1, 7))
        self.assertEqual(hall.keeper(1).words(), [7])

    def test_shown_by_a_keeping_hand(self):
        hall = hall_of({7: 1})
        hall.wish(0, ("pay", 0, 5, 7, 6))
        for count in range(3):
            hall.deliver(0)
        go_to(hall, 4)
        self.assertEqual(hall.book().shown_for(0), {7: 3})
        hall.show(1, 7)
        self.assertEqual(hall.book().shown_for(1), {7: 4})

    def test_told_in_a_letter_to_it(self):
        hall = mixed({7: 0})
        hall.band(("ask", 1, (70, 25), ((1, 5, 7, 12),)))
        hall.band(accept(1, (1, (70, 25), ((1, 5, 7, 12),))))
        self.check_refused(hall, lambda: hall.show(2, 7))
        self.assertTrue(hall.wish(0, ("settle", 1, 7)))
        self.assertEqual(hall.road(), [])
        hall.show(2, 7)
        self.assertEqual(hall.book().shown_for(2), {7: 0})

    def test_told_in_a_letter_on_the_road(self):
        hall = hall_of({7: 1})
        hall.wish(0, ("pay", 0, 5, 7, 20))
        for count in range(3):
            hall.deliver(0)
        self.assertTrue(hall.wish(1, ("settle", 0, 7)))
        hall.deliver(0)
        self.check_refused(hall, lambda: hall.show(2, 7))

    def test_told_by_the_band_itself(self):
        hall = mixed({7: 1})
        hall.band(("word", 0, 7))
        self.assertEqual(hall.keeper(0).words(), [7])
        hall.show(0, 7)

    def test_refused_by_the_book(self):
        hall = hall_of({7: 2})
        for pot in (3, -1, BIG):
            self.check_refused(hall, lambda: hall.show(pot, 7))
        for word in (60, -1, BIG):
            self.check_refused(hall, lambda: hall.show(0, word))
        small = Hall([(0, 1, 60, 40, 5)], [0], EVERY, {7: 1})
        self.check_refused(small, lambda: small.show(1, 7))

    def test_shown_again(self):
        hall = hall_of({7: 2})
        hall.show(0, 7)
        hall.next_day()
        hall.show(0, 7)
        self.assertEqual(hall.book().shown_for(0), {7: 0})


class TestLay(HallTest):
    def test_first_stand(self):
        hall = hall_of()
        self.assertIsNone(hall.lay(1, 1, first_of(1)))
        self.assertEqual(hall.book().told(1), ("laid", 1, first_of(1), 0))

    def test_both_sides_of_the_band(self):
        for side in (0, 1):
            hall = hall_of()
            hall.next_day()
            # The band makes the agreement of the other side itself.
            hall.lay(2, side, (5, (30, 0), ()))
            self.assertEqual(hall.book().told(2), ("laid", side, (5, (30, 0), ()), 1))

    def test_side_that_there_is_not_or_whose_hand_keeps(self):
        hall = hall_of()
        for pot, side in ((0, 0), (0, 1), (1, 0), (3, 0), (-1, 0), (BIG, 1), (1, 2), (2, 2), (2, -1), (2, BIG)):
            for stand in (first_of(0), first_of(1), first_of(2), None, (0, (1, 1), ()), [], "x"):
                self.check_refused(hall, lambda: hall.lay(pot, side, stand))

    def test_no_stand(self):
        hall = hall_of()
        for stand in (None, 0, (), [], {}, "0 70 30", (0, (70, 30)), [0, (70, 30), ()], (0, [70, 30], ()),
                      (-1, (70, 30), ()),
                      (0, (70, 30), []), (0, (True, 99), ()), (10 ** 6 + 1, (70, 30), ()), (0, (70, 30), None)):
            self.check_refused(hall, lambda: hall.lay(1, 1, stand), NoStand)

    def test_other_coin(self):
        hall = hall_of()
        for stand in ((0, (70, 31), ()), (1, (0, 0), ()), (1, (70, 30), ((0, 1, 7, 9),))):
            self.check_refused(hall, lambda: hall.lay(1, 1, stand), NoStand)

    def test_no_stand_ahead_of_no_deed(self):
        hall = hall_of()
        hall.lay(1, 1, first_of(1))
        self.check_refused(hall, lambda: hall.lay(1, 1, None), NoStand)
        self.check_refused(hall, lambda: hall.lay(1, 1, (0, (70, 31), ())), NoStand)
        self.check_refused(hall, lambda: hall.lay(1, 1, first_of(1)))
        self.check_refused(hall, lambda: hall.lay(1, 1, (1, (60, 40), ())))

    def test_without_the_agreement(self):
        hall = hall_of()
        self.check_refused(hall, lambda: hall.lay(1, 1, (1, (60, 40), ())))
        self.check_refused(hall, lambda: hall.lay(1, 1, (1, (70, 30), ())))
        hall.wish(1, ("give", 1, 10))
        for stand in ((1, (61, 39), ()), (2, (60, 40), ()), (0, (60, 40), ()), (1, (60, 35), ((0, 5, 7, 9),))):
            self.check_refused(hall, lambda: hall.lay(1, 1, stand))
        hall.lay(1, 1, (1, (60, 40), ()))
        self.assertEqual(hall.book().told(1)[2], (1, (60, 40), ()))

    def test_agreement_that_an_offer_on_the_road_tells(self):
        hall = hall_of({}, [(0, 1, 60, 40, 5), (2, 3, 60, 40, 5)])
        hall.wish(0, ("give", 0, 10))
        self.check_refused(hall, lambda: hall.lay(0, 1, (1, (50, 50), ())))


class TestStrike(HallTest):
    def cheated(self):
        """A hall in which hand 0 gave the first stand of pot 1 up to the band."""
        hall = mixed()
        hall.wish(0, ("give", 1, 10))
        hall.band(accept(1, (1, (60, 40), ())))
        return hall

    def test_nothing_lies(self):
        hall = self.cheated()
        for side in (0, 1):
            self.check_refused(hall, lambda: hall.strike(2, side))
        self.check_refused(hall, lambda: hall.strike(1, 1))

    def test_strikes_what_the_other_side_laid(self):
        hall = self.cheated()
        hall.book().lay(1, 0, first_of(1, MIXED))
        self.assertIsNone(hall.strike(1, 1))
        self.assertEqual(hall.book().told(1), ("taken", 1))
        self.assertEqual(hall.coin(2), 100)
        self.check_refused(hall, lambda: hall.strike(1, 1))

    def test_without_the_strike(self):
        hall = mixed()
        hall.book().lay(1, 0, first_of(1, MIXED))
        self.check_refused(hall, lambda: hall.strike(1, 1))
        hall = self.cheated()
        hall.book().lay(1, 0, (1, (60, 40), ()), ("agree", 1, 1, (1, (60, 40), ())))
        self.check_refused(hall, lambda: hall.strike(1, 1))

    def test_strike_that_the_band_makes(self):
        for side in (0, 1):
            hall = hall_of()
            hall.lay(2, 1 - side, first_of(2))
            self.check_refused(hall, lambda: hall.strike(2, 1 - side))
            hall.strike(2, side)
            self.assertEqual(hall.book().told(2), ("taken", side))
            self.check_refused(hall, lambda: hall.strike(2, 1 - side))

    def test_behind_the_wait(self):
        for late, strikes in ((5, True), (6, False)):
            hall = self.cheated()
            hall.book().lay(1, 0, first_of(1, MIXED))
            for count in range(late):
                hall.book().next_day()
            if strikes:
                hall.strike(1, 1)
            else:
                self.check_refused(hall, lambda: hall.strike(1, 1))

    def test_side_that_there_is_not_or_whose_hand_keeps(self):
        hall = hall_of()
        hall.lay(1, 1, first_of(1))
        hall.lay(2, 1, first_of(2))
        for pot, side in ((0, 0), (0, 1), (1, 0), (3, 0), (-1, 0), (BIG, 0), (2, 2), (2, -1), (2, BIG)):
            self.check_refused(hall, lambda: hall.strike(pot, side))

    def test_what_the_band_laid_itself(self):
        hall = mixed()
        hall.band(offer(0, (1, (50, 50), ())))
        hall.lay(0, 0, first_of(0, MIXED))
        self.check_refused(hall, lambda: hall.strike(0, 0))


class TestDays(HallTest):
    def test_look_tells_its_deeds(self):
        hall = hall_of()
        hall.wish(0, ("finish", 0))
        self.assertEqual(hall.look(0), [("lay", 0)])
        self.assertEqual(hall.book().told(0), ("laid", 0, first_of(0), 0))
        self.assertEqual(hall.look(0), [])
        self.assertEqual(hall.look(1), [])

    def test_next_day_without_a_look(self):
        hall = hall_of()
        for day in range(3):
            self.assertIsNone(hall.next_day())
            self.assertEqual(hall.book().today(), day + 1)
            self.assertEqual([hall.keeper(hand).looked() for hand in (0, 1)], [0, 0])

    def test_looks_when_every_days_are_over(self):
        hall = hall_of()
        looked = []
        for day in range(10):
            hall.next_day()
            looked.append(hall.keeper(0).looked())
        self.assertEqual(looked, [0, 0, 0, 3, 3, 3, 6, 6, 6, 9])

    def test_each_hand_by_its_own_last_look(self):
        hall = hall_of()
        go_to(hall, 2)
        hall.look(1)
        go_to(hall, 4)
        self.assertEqual([hall.keeper(hand).looked() for hand in (0, 1)], [3, 2])
        go_to(hall, 6)
        self.assertEqual([hall.keeper(hand).looked() for hand in (0, 1)], [3, 5])

    def test_looks_ahead_of_the_next_day(self):
        hall = hall_of()
        hall.wish(0, ("finish", 0))
        go_to(hall, 3)
        self.assertEqual(hall.book().told(0), ("held",))
        hall.next_day()
        self.assertEqual(hall.book().told(0), ("laid", 0, first_of(0), 3))
        self.assertEqual(hall.book().today(), 4)

    def test_when_more_days_are_over(self):
        hall = hall_of()
        for count in range(7):
            hall.book().next_day()
        hall.next_day()
        self.assertEqual([hall.keeper(hand).looked() for hand in (0, 1)], [7, 7])

    def test_hands_by_rising_numbers(self):
        for keeps in ([0, 1], [1, 0]):
            hall = Hall([(1, 0, 60, 40, 5), (0, 1, 5, 5, 5)], keeps, EVERY)
            for hand in (1, 0):
                hall.wish(hand, ("finish", 0))
                hall.wish(hand, ("finish", 1))
            go_to(hall, 4)
            self.assertEqual(hall.book().told(0), ("laid", 1, (0, (60, 40), ()), 3))
            self.assertEqual(hall.book().told(1), ("laid", 0, (0, (5, 5), ()), 3))

    def test_every_of_all(self):
        for every in (1, 2, 4):
            hall = hall_of(pots=[(0, 1, 60, 40, 5)], every=every)
            go_to(hall, every)
            self.assertEqual(hall.keeper(0).looked(), 0)
            hall.next_day()
            self.assertEqual([hall.keeper(hand).looked() for hand in (0, 1)], [every, every])

    def test_a_cheat_of_the_band_is_struck_in_time(self):
        hall = mixed()
        hall.wish(0, ("give", 1, 10))
        hall.band(accept(1, (1, (60, 40), ())))
        hall.look(0)
        hall.lay(1, 1, first_of(1, MIXED))
        go_to(hall, 4)
        self.assertEqual(hall.book().told(1), ("taken", 0))
        self.assertEqual(hall.coin(0), 100)
        self.assertEqual(hall.coin(2), 0)


class TestCoin(HallTest):
    def test_of_each_hand(self):
        hall = hall_of()
        self.assertEqual([hall.coin(hand) for hand in range(4)], [0, 0, 0, 0])
        hall.lay(1, 1, first_of(1))
        hall.lay(2, 0, (1, (25, 0), ((0, 5, 7, 50),)))
        hall.wish(0, ("finish", 0))
        hall.look(0)
        go_to(hall, 3)
        self.assertEqual([hall.coin(hand) for hand in range(4)], [0, 0, 0, 0])
        go_to(hall, 4)
        self.assertEqual([hall.coin(hand) for hand in range(4)], [0, 0, 25, 0])
        go_to(hall, 6)
        self.assertEqual([hall.coin(hand) for hand in range(4)], [60, 110, 55, 0])
        go_to(hall, 50)
        self.assertEqual([hall.coin(hand) for hand in range(4)], [60, 110, 60, 0])

    def test_of_a_hand_that_there_is_not(self):
        hall = hall_of()
        for hand in (4, -1, BIG):
            self.check_refused(hall, lambda: hall.coin(hand))


if __name__ == "__main__":
    unittest.main()
