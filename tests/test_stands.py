import itertools
import unittest

from sidebook.errors import BookError, NoDeed, NoStand
from sidebook.stands import (
    comes_to, deals, dropped, first, gift, is_stand, settled, stand, tie_of, tied,
)

MOST_NUMBER = 10 ** 6
MOST_DAY = 10 ** 6
MOST_AMOUNT = 10 ** 12
MOST_SHARE = 2 * 10 ** 12
THIRTY_FIGURES = 10 ** 30 - 1

NO_WHOLE_NUMBERS = (True, False, None, "1", "", "0", [1], [], (1,), (), {}, {1: 1}, 1.0, 0.5, b"1", 1j, object())

TIE = (0, 5, 7, 12)
BASE = (3, (40, 55), (TIE,))

ODD_THINGS = (
    None, True, False, 0, 1, -1, THIRTY_FIGURES, 1.5, float("nan"), "", "stand", "3 40 55", b"", b"abc", [], {}, (),
    set(), frozenset(), object(), len, int, ValueError, ValueError("x"), range(3), [3, (40, 55), ()],
    {0: 3, 1: (40, 55), 2: ()}, (None, None, None), ((), (), ()), ((3, (40, 55), ()),), iter(()),
)


def with_number(part):
    return (part, (40, 55), (TIE,))


def with_left(part):
    return (3, (part, 55), (TIE,))


def with_right(part):
    return (3, (40, part), (TIE,))


def with_payer(part):
    return (3, (40, 55), ((part, 5, 7, 12),))


def with_amount(part):
    return (3, (40, 55), ((0, part, 7, 12),))


def with_word(part):
    return (3, (40, 55), ((0, 5, part, 12),))


def with_day(part):
    return (3, (40, 55), ((0, 5, 7, part),))


def with_second_tie(tie):
    return (3, (40, 55), (TIE, tie))


# each part of a stand with its least and its greatest number
PARTS = (
    (with_number, 0, MOST_NUMBER),
    (with_left, 0, MOST_SHARE),
    (with_right, 0, MOST_SHARE),
    (with_payer, 0, 1),
    (with_amount, 1, MOST_AMOUNT),
    (with_word, 0, 59),
    (with_day, 0, MOST_DAY),
)


def ties_with_words(words):
    return tuple((k % 2, 10 + k, word, 20 + k) for k, word in enumerate(words))


class StandCase(unittest.TestCase):
    def check_stand(self, thing):
        with self.subTest(thing=thing):
            self.assertIs(is_stand(thing), True)
            made = stand(thing[0], thing[1], thing[2])
            self.assertEqual(made, thing)
            self.assertIsInstance(made, tuple)

    def check_no_stand(self, thing):
        with self.subTest(thing=thing):
            self.assertIs(is_stand(thing), False)
            with self.assertRaises(NoStand):
                stand(thing[0], thing[1], thing[2])


class TestWhatAStandIs(StandCase):
    def test_ordinary(self):
        self.check_stand(BASE)
        self.check_stand((0, (0, 0), ()))
        self.check_stand((1, (7, 0), ((1, 2, 3, 4), (0, 2, 4, 4))))

    def test_each_number_at_its_border_and_beyond(self):
        for build, least, most in PARTS:
            with self.subTest(part=build.__name__):
                self.check_stand(build(least))
                self.check_stand(build(most))
                self.check_stand(build((least + most) // 2))
                self.check_no_stand(build(least - 1))
                self.check_no_stand(build(most + 1))

    def test_numbers_of_thirty_figures(self):
        for build, least, most in PARTS:
            with self.subTest(part=build.__name__):
                self.check_no_stand(build(THIRTY_FIGURES))
                self.check_no_stand(build(-THIRTY_FIGURES))
                self.check_no_stand(build(10 ** 29))

    def test_what_is_no_whole_number_in_the_place_of_one(self):
        for build, least, most in PARTS:
            for part in NO_WHOLE_NUMBERS:
                with self.subTest(part=build.__name__):
                    self.check_no_stand(build(part))

    def test_the_second_tie_is_looked_at_too(self):
        self.check_stand(with_second_tie((1, 5, 8, 12)))
        for tie in ((2, 5, 8, 12), (1, 0, 8, 12), (1, 5, 60, 12), (1, 5, 8, -1), (1, 5, 8), [1, 5, 8, 12], None, 8):
            self.check_no_stand(with_second_tie(tie))

    def test_lists_in_the_place_of_tuples(self):
        self.assertIs(is_stand([3, (40, 55), (TIE,)]), False)
        self.check_no_stand((3, [40, 55], (TIE,)))
        self.check_no_stand((3, (40, 55), [TIE]))
        self.check_no_stand((3, (40, 55), []))
        self.check_no_stand((3, (40, 55), (list(TIE),)))
        self.check_no_stand((3, (40, 55), ([],)))

    def test_other_things_in_the_place_of_shares(self):
        for part in (None, True, 40, "40", "", (), (40,), (40, 55, 0), ((40, 55),), {}, {0: 40, 1: 55}, [40, 55]):
            self.check_no_stand((3, part, (TIE,)))

    def test_other_things_in_the_place_of_ties(self):
        for part in (True, False, 0, "", "ties", {}, [], TIE, ((),), (None,), ("abcd",), (TIE, ()), object()):
            self.check_no_stand((3, (40, 55), part))
        self.assertIs(is_stand((3, (40, 55), None)), False)

    def test_a_part_more_or_less(self):
        for thing in ((), (3,), (3, (40, 55)), (3, (40, 55), (), ()), (3, (40, 55), (TIE,), 0), ((40, 55), ())):
            with self.subTest(thing=thing):
                self.assertIs(is_stand(thing), False)
        self.check_no_stand((3, (40,), ()))
        self.check_no_stand((3, (40, 55, 0), ()))
        self.check_no_stand((3, (40, 55), ((0, 5, 7),)))
        self.check_no_stand((3, (40, 55), ((0, 5, 7, 12, 0),)))

    def test_two_ties_of_one_word(self):
        self.check_no_stand((3, (40, 55), (TIE, TIE)))
        self.check_no_stand((3, (40, 55), (TIE, (1, 6, 7, 13))))
        self.check_no_stand((3, (40, 55), ties_with_words((1, 2, 3, 4, 5, 1))))
        self.check_stand((3, (40, 55), ((0, 5, 7, 12), (0, 5, 8, 12))))

    def test_six_ties_and_seven(self):
        for count in range(7):
            self.check_stand((3, (40, 55), ties_with_words(range(count))))
        self.check_no_stand((3, (40, 55), ties_with_words(range(7))))
        self.check_no_stand((3, (40, 55), ties_with_words(range(60))))

    def test_is_stand_of_anything(self):
        for thing in ODD_THINGS:
            with self.subTest(thing=thing):
                self.assertIs(is_stand(thing), False)

    def test_words_that_go_into_no_set(self):
        self.assertIs(is_stand((3, (40, 55), ((0, 5, [7], 12), (0, 5, {}, 12)))), False)


class TestMakingAStand(StandCase):
    def test_without_ties(self):
        self.assertEqual(stand(3, (40, 55)), (3, (40, 55), ()))
        self.assertEqual(stand(3, (40, 55), None), (3, (40, 55), ()))
        self.assertEqual(stand(3, (40, 55), ()), (3, (40, 55), ()))
        self.assertEqual(stand(number=3, shares=(40, 55), ties=(TIE,)), BASE)

    def test_without_ties_the_rest_is_still_looked_at(self):
        for number, shares in ((-1, (0, 0)), (MOST_NUMBER + 1, (0, 0)), (0, (0, -1)), (0, [0, 0]), (True, (0, 0))):
            with self.subTest(number=number, shares=shares):
                with self.assertRaises(NoStand):
                    stand(number, shares)

    def test_ties_keep_their_order(self):
        ties = ((0, 1, 9, 5), (1, 2, 3, 4), (0, 3, 6, 2))
        self.assertEqual(stand(1, (1, 1), ties)[2], ties)

    def test_how_the_refusal_is_taken(self):
        for refusal in (NoStand, BookError, ValueError):
            with self.assertRaises(refusal):
                stand(0, (0, MOST_SHARE + 1))
        try:
            stand(0, (0, MOST_SHARE + 1))
        except NoDeed:
            self.fail("NoStand was taken by NoDeed")
        except NoStand:
            pass

    def test_asked_again_it_answers_the_same(self):
        self.assertEqual(stand(3, (40, 55), (TIE,)), stand(3, (40, 55), (TIE,)))

    def test_first(self):
        for left, right in ((0, 0), (3, 4), (10 ** 12, 10 ** 12), (MOST_SHARE, 0), (0, MOST_SHARE)):
            with self.subTest(left=left, right=right):
                self.assertEqual(first(left, right), (0, (left, right), ()))
                self.assertIs(is_stand(first(left, right)), True)

    def test_deals(self):
        self.assertEqual(deals(first(0, 0)), 0)
        self.assertEqual(deals(first(3, 4)), 7)
        self.assertEqual(deals(BASE), 100)
        self.assertEqual(deals((9, (1, 20), ((0, 300, 1, 5), (1, 4000, 2, 5)))), 4321)
        self.assertEqual(deals((1, (MOST_SHARE, MOST_SHARE), ((0, MOST_AMOUNT, 1, 5),))), 5 * 10 ** 12)


class NextCase(unittest.TestCase):
    def check_next(self, one, made, shares, ties):
        self.assertEqual(made, (one[0] + 1, shares, ties))
        self.assertIs(is_stand(made), True)
        self.assertEqual(deals(made), deals(one))

    def check_refused(self, deed, *arguments):
        with self.subTest(deed=deed.__name__, arguments=arguments):
            with self.assertRaises(NoStand):
                deed(*arguments)


class TestGift(NextCase):
    def test_by_either_side(self):
        self.check_next(BASE, gift(BASE, 0, 15), (25, 70), (TIE,))
        self.check_next(BASE, gift(BASE, 1, 15), (55, 40), (TIE,))

    def test_the_stand_stays_as_it_was(self):
        one = (3, (40, 55), (TIE,))
        gift(one, 0, 15)
        self.assertEqual(one, (3, (40, 55), (TIE,)))

    def test_share_down_to_nothing_and_below(self):
        self.check_next(BASE, gift(BASE, 0, 40), (0, 95), (TIE,))
        self.check_next(BASE, gift(BASE, 1, 55), (95, 0), (TIE,))
        self.check_refused(gift, BASE, 0, 41)
        self.check_refused(gift, BASE, 1, 56)

    def test_share_up_to_its_bound_and_above(self):
        one = (3, (10, MOST_SHARE - 5), ())
        self.check_next(one, gift(one, 0, 5), (5, MOST_SHARE), ())
        self.check_refused(gift, one, 0, 6)
        two = (3, (MOST_SHARE - 5, 10), ())
        self.check_next(two, gift(two, 1, 5), (MOST_SHARE, 5), ())
        self.check_refused(gift, two, 1, 6)

    def test_amount_at_its_bounds_and_out_of_them(self):
        one = (3, (MOST_SHARE, 0), ())
        self.check_next(one, gift(one, 0, 1), (MOST_SHARE - 1, 1), ())
        self.check_next(one, gift(one, 0, MOST_AMOUNT), (MOST_AMOUNT, MOST_AMOUNT), ())
        for amount in (0, -1, -MOST_AMOUNT, MOST_AMOUNT + 1, MOST_SHARE, THIRTY_FIGURES, -THIRTY_FIGURES):
            self.check_refused(gift, one, 0, amount)
        self.check_refused(gift, BASE, 0, 0)
        self.check_refused(gift, BASE, 1, -1)

    def test_number_at_its_bound(self):
        last = (MOST_NUMBER, (40, 55), (TIE,))
        ahead = (MOST_NUMBER - 1, (40, 55), (TIE,))
        self.check_next(ahead, gift(ahead, 0, 1), (39, 56), (TIE,))
        self.check_refused(gift, last, 0, 1)


class TestTied(NextCase):
    def test_by_either_side_behind_the_others(self):
        self.check_next(BASE, tied(BASE, 0, 10, 8, 30), (30, 55), (TIE, (0, 10, 8, 30)))
        self.check_next(BASE, tied(BASE, 1, 10, 3, 2), (40, 45), (TIE, (1, 10, 3, 2)))

    def test_the_stand_stays_as_it_was(self):
        one = (3, (40, 55), (TIE,))
        tied(one, 0, 10, 8, 30)
        self.assertEqual(one, (3, (40, 55), (TIE,)))

    def test_share_down_to_nothing_and_below(self):
        self.check_next(BASE, tied(BASE, 0, 40, 8, 30), (0, 55), (TIE, (0, 40, 8, 30)))
        self.check_next(BASE, tied(BASE, 1, 55, 8, 30), (40, 0), (TIE, (1, 55, 8, 30)))
        self.check_refused(tied, BASE, 0, 41, 8, 30)
        self.check_refused(tied, BASE, 1, 56, 8, 30)

    def test_amount_at_its_bounds_and_out_of_them(self):
        one = (3, (MOST_SHARE, 0), ())
        self.check_next(one, tied(one, 0, 1, 8, 30), (MOST_SHARE - 1, 0), ((0, 1, 8, 30),))
        self.check_next(one, tied(one, 0, MOST_AMOUNT, 8, 30), (MOST_AMOUNT, 0), ((0, MOST_AMOUNT, 8, 30),))
        for amount in (0, -1, MOST_AMOUNT + 1, MOST_SHARE, THIRTY_FIGURES, -THIRTY_FIGURES):
            self.check_refused(tied, one, 0, amount, 8, 30)
        self.check_refused(tied, BASE, 0, 0, 8, 30)

    def test_word_and_day_at_their_bounds_and_out_of_them(self):
        for word, day in ((0, 30), (59, 30), (8, 0), (8, MOST_DAY)):
            self.check_next(BASE, tied(BASE, 0, 10, word, day), (30, 55), (TIE, (0, 10, word, day)))
        for word, day in ((-1, 30), (60, 30), (8, -1), (8, MOST_DAY + 1), (THIRTY_FIGURES, 30), (8, THIRTY_FIGURES)):
            self.check_refused(tied, BASE, 0, 10, word, day)

    def test_payer_that_is_no_side(self):
        for payer in (-1, 2, THIRTY_FIGURES):
            self.check_refused(tied, BASE, payer, 10, 8, 30)

    def test_sixth_tie_and_seventh(self):
        five = (3, (40, 55), ties_with_words(range(5)))
        six = tied(five, 0, 10, 8, 30)
        self.check_next(five, six, (30, 55), five[2] + ((0, 10, 8, 30),))
        self.check_refused(tied, six, 0, 10, 9, 30)

    def test_word_tied_already(self):
        self.check_refused(tied, BASE, 0, 10, 7, 30)
        self.check_refused(tied, BASE, 1, 5, 7, 12)

    def test_number_at_its_bound(self):
        last = (MOST_NUMBER, (40, 55), ())
        ahead = (MOST_NUMBER - 1, (40, 55), ())
        self.check_next(ahead, tied(ahead, 0, 1, 8, 30), (39, 55), ((0, 1, 8, 30),))
        self.check_refused(tied, last, 0, 1, 8, 30)


THREE_TIES = ((0, 10, 8, 30), (1, 20, 3, 2), (0, 40, 59, 7))
THREE = (5, (100, 200), THREE_TIES)


class TestSettledAndDropped(NextCase):
    def test_settled_goes_to_the_other_side(self):
        self.check_next(THREE, settled(THREE, 8), (100, 210), (THREE_TIES[1], THREE_TIES[2]))
        self.check_next(THREE, settled(THREE, 3), (120, 200), (THREE_TIES[0], THREE_TIES[2]))
        self.check_next(THREE, settled(THREE, 59), (100, 240), (THREE_TIES[0], THREE_TIES[1]))

    def test_dropped_goes_back_to_the_payer(self):
        self.check_next(THREE, dropped(THREE, 8), (110, 200), (THREE_TIES[1], THREE_TIES[2]))
        self.check_next(THREE, dropped(THREE, 3), (100, 220), (THREE_TIES[0], THREE_TIES[2]))
        self.check_next(THREE, dropped(THREE, 59), (140, 200), (THREE_TIES[0], THREE_TIES[1]))

    def test_word_zero(self):
        one = (1, (10, 20), ((1, 3, 0, 4),))
        self.check_next(one, settled(one, 0), (13, 20), ())
        self.check_next(one, dropped(one, 0), (10, 23), ())

    def test_the_stand_stays_as_it_was(self):
        one = (5, (100, 200), THREE_TIES)
        settled(one, 8)
        dropped(one, 8)
        self.assertEqual(one, (5, (100, 200), ((0, 10, 8, 30), (1, 20, 3, 2), (0, 40, 59, 7))))

    def test_word_that_no_tie_has(self):
        for word in (0, 7, 58, -1, 60, THIRTY_FIGURES, -THIRTY_FIGURES):
            self.check_refused(settled, THREE, word)
            self.check_refused(dropped, THREE, word)
        self.check_refused(settled, first(3, 4), 0)
        self.check_refused(dropped, first(3, 4), 0)

    def test_gone_the_word_cannot_go_again_but_be_tied_again(self):
        gone = dropped(THREE, 8)
        self.check_refused(settled, gone, 8)
        self.check_refused(dropped, gone, 8)
        self.check_next(gone, tied(gone, 1, 9, 8, 1), (110, 191), (THREE_TIES[1], THREE_TIES[2], (1, 9, 8, 1)))

    def test_share_up_to_its_bound_and_above(self):
        fits = (5, (MOST_SHARE - 10, MOST_SHARE - 10), ((0, 10, 8, 30),))
        self.check_next(fits, settled(fits, 8), (MOST_SHARE - 10, MOST_SHARE), ())
        self.check_next(fits, dropped(fits, 8), (MOST_SHARE, MOST_SHARE - 10), ())
        full = (5, (MOST_SHARE - 9, MOST_SHARE - 9), ((0, 10, 8, 30),))
        self.check_refused(settled, full, 8)
        self.check_refused(dropped, full, 8)

    def test_number_at_its_bound(self):
        ahead = (MOST_NUMBER - 1, (40, 55), (TIE,))
        last = (MOST_NUMBER, (40, 55), (TIE,))
        self.check_next(ahead, settled(ahead, 7), (40, 60), ())
        self.check_next(ahead, dropped(ahead, 7), (45, 55), ())
        self.check_refused(settled, last, 7)
        self.check_refused(dropped, last, 7)

    def test_each_of_six(self):
        six = (5, (100, 200), ties_with_words((5, 4, 3, 2, 1, 0)))
        for place, tie in enumerate(six[2]):
            rest = six[2][:place] + six[2][place + 1:]
            self.assertEqual(settled(six, tie[2])[2], rest)
            self.assertEqual(dropped(six, tie[2])[2], rest)
            self.assertEqual(deals(settled(six, tie[2])), deals(six))
            self.assertEqual(deals(dropped(six, tie[2])), deals(six))


class TestTieOf(unittest.TestCase):
    def test_each_tie(self):
        for tie in THREE_TIES:
            self.assertEqual(tie_of(THREE, tie[2]), tie)

    def test_none(self):
        for word in (0, 7, 58, 60, -1, THIRTY_FIGURES, -THIRTY_FIGURES):
            with self.subTest(word=word):
                self.assertIsNone(tie_of(THREE, word))
        self.assertIsNone(tie_of(first(3, 4), 0))

    def test_not_by_amount_or_day_or_payer(self):
        one = (1, (10, 20), ((1, 3, 9, 4),))
        for word in (0, 1, 3, 4):
            self.assertIsNone(tie_of(one, word))

    def test_word_zero(self):
        self.assertEqual(tie_of((1, (10, 20), ((1, 3, 0, 4),)), 0), (1, 3, 0, 4))


class TestComesTo(unittest.TestCase):
    def test_no_words(self):
        self.assertEqual(comes_to(THREE, []), (150, 220))

    def test_some_words(self):
        self.assertEqual(comes_to(THREE, [8]), (140, 230))
        self.assertEqual(comes_to(THREE, [3]), (170, 200))
        self.assertEqual(comes_to(THREE, [59]), (110, 260))
        self.assertEqual(comes_to(THREE, [3, 8, 59]), (120, 250))

    def test_words_told_twice(self):
        self.assertEqual(comes_to(THREE, [8, 8]), (140, 230))
        self.assertEqual(comes_to(THREE, [8, 3, 8, 3, 8]), comes_to(THREE, [3, 8]))

    def test_words_that_are_not_tied(self):
        self.assertEqual(comes_to(THREE, [0, 1, 2, 58]), (150, 220))
        self.assertEqual(comes_to(THREE, [0, 8, 1, 1, 8]), (140, 230))
        self.assertEqual(comes_to(first(3, 4), [0, 1]), (3, 4))

    def test_it_tells_a_tuple(self):
        self.assertIsInstance(comes_to(first(3, 4), []), tuple)
        self.assertIsInstance(comes_to(THREE, [8]), tuple)

    def test_it_may_come_to_more_than_a_share_s_bound(self):
        one = (1, (MOST_SHARE, 0), ((0, MOST_AMOUNT, 1, 5),))
        self.assertEqual(comes_to(one, []), (3 * 10 ** 12, 0))
        self.assertEqual(comes_to(one, [1]), (MOST_SHARE, MOST_AMOUNT))

    def test_a_list_of_a_hundred_words(self):
        self.assertEqual(comes_to(THREE, [k % 60 for k in range(100)]), (120, 250))

    def test_what_was_handed_in_stays_as_it_was(self):
        words = [8, 3, 8, 0]
        one = (5, (100, 200), THREE_TIES)
        came = comes_to(one, words)
        self.assertEqual(words, [8, 3, 8, 0])
        self.assertEqual(one, THREE)
        words.append(59)
        self.assertEqual(came, (160, 210))

    def test_it_is_what_the_stand_deals_out(self):
        six = (5, (100, 200), ties_with_words(range(6)))
        for count in range(7):
            for words in itertools.combinations(range(6), count):
                self.assertEqual(sum(comes_to(six, list(words))), deals(six))

    def test_each_way_of_six_words(self):
        six = (5, (100, 200), ties_with_words(range(6)))
        for count in range(7):
            for words in itertools.combinations(range(6), count):
                gets = [100, 200]
                for payer, amount, word, day in six[2]:
                    gets[1 - payer if word in words else payer] += amount
                self.assertEqual(comes_to(six, list(words)), tuple(gets))


if __name__ == "__main__":
    unittest.main()
