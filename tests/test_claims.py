import itertools
import unittest

from sidebook.claims import Claim, Held, Laid, Taken
from sidebook.stands import comes_to

THIRTY_FIGURES = 10 ** 30 - 1

# 100 coins; side 0 pays words 7 and 9, side 1 pays word 8; laid on day 10, waiting to day 15
TIES = ((0, 5, 7, 12), (1, 20, 8, 20), (0, 30, 9, 30))
STAND = (3, (15, 30), TIES)
WHOLE = 100
LAID_ON = 10
WAIT = 5
END = LAID_ON + WAIT


def laid(side=0):
    return Laid(WHOLE, side, STAND, LAID_ON, WAIT)


class TestKinds(unittest.TestCase):
    def test_three_kinds_under_one_class(self):
        kinds = (Held, Laid, Taken)
        for one in kinds:
            self.assertTrue(issubclass(one, Claim))
            for two in kinds:
                if one is not two:
                    self.assertFalse(issubclass(one, two))

    def test_made_by_names(self):
        self.assertEqual(Held(whole=7).told(), ("held",))
        one = Laid(whole=WHOLE, side=1, stand=STAND, day=4, wait=2)
        self.assertEqual(one.told(), ("laid", 1, STAND, 4))
        self.assertEqual(Taken(whole=7, side=1).told(), ("taken", 1))


class TestTold(unittest.TestCase):
    def test_held(self):
        self.assertEqual(Held(WHOLE).told(), ("held",))
        self.assertEqual(Held(0).told(), ("held",))

    def test_laid(self):
        self.assertEqual(laid(0).told(), ("laid", 0, STAND, LAID_ON))
        self.assertEqual(laid(1).told(), ("laid", 1, STAND, LAID_ON))
        self.assertEqual(Laid(7, 1, (0, (3, 4), ()), 0, 100).told(), ("laid", 1, (0, (3, 4), ()), 0))

    def test_taken(self):
        self.assertEqual(Taken(WHOLE, 0).told(), ("taken", 0))
        self.assertEqual(Taken(WHOLE, 1).told(), ("taken", 1))

    def test_asking_changes_nothing(self):
        one = laid()
        one.comes(END, {7: 1})
        one.may_strike(1, 1, LAID_ON, ("strike", 1, 0, 3))
        self.assertEqual(one.told(), ("laid", 0, STAND, LAID_ON))
        self.assertEqual(one.told(), one.told())


class TestComesOfHeldAndTaken(unittest.TestCase):
    def test_of_a_held_pot_all_is_open(self):
        for day in (0, 1, LAID_ON, 10 ** 6):
            for shown in ({}, {7: 0}, {7: 0, 8: 3}):
                self.assertEqual(Held(WHOLE).comes(day, shown), (0, 0, WHOLE))
        self.assertEqual(Held(0).comes(3, {}), (0, 0, 0))

    def test_of_a_taken_pot_all_is_due_to_who_took_it(self):
        for day in (0, 1, LAID_ON, 10 ** 6):
            for shown in ({}, {7: 0}, {7: 0, 8: 3}):
                self.assertEqual(Taken(WHOLE, 0).comes(day, shown), (WHOLE, 0, 0))
                self.assertEqual(Taken(WHOLE, 1).comes(day, shown), (0, WHOLE, 0))
        self.assertEqual(Taken(2 * 10 ** 12, 1).comes(3, {}), (0, 2 * 10 ** 12, 0))


class TestComesOfLaid(unittest.TestCase):
    def test_all_is_open_ahead_of_the_end_of_the_wait(self):
        for day in (LAID_ON, LAID_ON + 1, END - 1):
            for shown in ({}, {7: 0, 8: 0, 9: 0}):
                for side in (0, 1):
                    self.assertEqual(laid(side).comes(day, shown), (0, 0, WHOLE))

    def test_shares_are_due_on_the_day_on_which_the_wait_ends(self):
        one = Laid(7, 0, (0, (3, 4), ()), LAID_ON, WAIT)
        self.assertEqual(one.comes(END - 1, {}), (0, 0, 7))
        self.assertEqual(one.comes(END, {}), (3, 4, 0))
        self.assertEqual(one.comes(END + 1, {}), (3, 4, 0))

    def test_shortest_and_longest_wait(self):
        short = Laid(7, 1, (0, (3, 4), ()), 0, 1)
        self.assertEqual(short.comes(0, {}), (0, 0, 7))
        self.assertEqual(short.comes(1, {}), (3, 4, 0))
        long = Laid(7, 1, (0, (3, 4), ()), 0, 100)
        self.assertEqual(long.comes(99, {}), (0, 0, 7))
        self.assertEqual(long.comes(100, {}), (3, 4, 0))

    def test_who_laid_it_does_not_matter_for_what_is_due(self):
        for day in (END - 1, END, 20, 30):
            self.assertEqual(laid(0).comes(day, {8: 3}), laid(1).comes(day, {8: 3}))

    def test_a_word_never_shown(self):
        # word 7's day is past when the wait ends; 8 and 9 are still to come
        self.assertEqual(laid().comes(END, {}), (20, 30, 50))

    def test_a_tie_goes_back_on_its_very_day(self):
        self.assertEqual(laid().comes(19, {}), (20, 30, 50))
        self.assertEqual(laid().comes(20, {}), (20, 50, 30))
        self.assertEqual(laid().comes(29, {}), (20, 50, 30))
        self.assertEqual(laid().comes(30, {}), (50, 50, 0))
        self.assertEqual(laid().comes(10 ** 6, {}), (50, 50, 0))

    def test_a_word_shown_ahead_of_its_day_goes_to_the_other_side(self):
        self.assertEqual(laid().comes(END, {7: 11}), (15, 35, 50))
        self.assertEqual(laid().comes(END, {8: 0}), (40, 30, 30))
        self.assertEqual(laid().comes(19, {8: 19}), (40, 30, 30))
        self.assertEqual(laid().comes(29, {9: 29}), (20, 80, 0))
        self.assertEqual(laid().comes(30, {7: 11, 8: 19, 9: 29}), (35, 65, 0))

    def test_a_word_shown_on_that_very_day_is_too_late(self):
        self.assertEqual(laid().comes(END, {7: 12}), (20, 30, 50))
        self.assertEqual(laid().comes(20, {8: 20}), (20, 50, 30))
        self.assertEqual(laid().comes(30, {9: 30}), (50, 50, 0))

    def test_a_word_shown_later_is_too_late(self):
        self.assertEqual(laid().comes(END, {7: 13}), (20, 30, 50))
        self.assertEqual(laid().comes(31, {7: 31, 8: 31, 9: 31}), (50, 50, 0))

    def test_a_word_shown_on_day_0(self):
        self.assertEqual(laid().comes(END, {7: 0}), (15, 35, 50))
        day_0 = Laid(5, 0, (1, (0, 0), ((0, 5, 0, 0),)), 0, 1)
        self.assertEqual(day_0.comes(1, {0: 0}), (5, 0, 0))
        day_1 = Laid(5, 0, (1, (0, 0), ((0, 5, 0, 1),)), 0, 1)
        self.assertEqual(day_1.comes(1, {0: 0}), (0, 5, 0))

    def test_shown_in_time_stays_so_when_the_tie_s_day_comes(self):
        for day in (END, 19, 20, 21, 10 ** 6):
            due = laid().comes(day, {8: 14})
            self.assertGreaterEqual(due[0], 40)

    def test_words_that_are_not_tied(self):
        for day in (END, 20, 30):
            self.assertEqual(laid().comes(day, {0: 1, 12: 1, 59: 2}), laid().comes(day, {}))

    def test_the_three_come_to_the_pot_s_coin(self):
        for day in range(LAID_ON, 35):
            for shown in self.some_shown():
                self.assertEqual(sum(laid().comes(day, shown)), WHOLE)
                self.assertEqual(sum(Held(WHOLE).comes(day, shown)), WHOLE)
                self.assertEqual(sum(Taken(WHOLE, day % 2).comes(day, shown)), WHOLE)

    def test_what_is_due_never_grows_less(self):
        for shown in self.some_shown():
            ahead = (0, 0, WHOLE)
            for day in range(LAID_ON, 35):
                known = {word: first for word, first in shown.items() if first <= day}
                due = laid().comes(day, known)
                self.assertGreaterEqual(due[0], ahead[0])
                self.assertGreaterEqual(due[1], ahead[1])
                ahead = due

    def test_in_the_end_it_is_what_the_stand_comes_to(self):
        for count in range(4):
            for words in itertools.combinations((7, 8, 9), count):
                due = laid().comes(40, {word: 11 for word in words})
                self.assertEqual(due, comes_to(STAND, list(words)) + (0,))

    def test_it_tells_a_tuple(self):
        for claim in (Held(WHOLE), laid(), Taken(WHOLE, 0)):
            for day in (LAID_ON, END, 30):
                self.assertIsInstance(claim.comes(day, {8: 3}), tuple)
                self.assertIsInstance(claim.told(), tuple)

    def test_the_dict_stays_as_it_was(self):
        for claim in (Held(WHOLE), laid(), Taken(WHOLE, 0)):
            for day in (LAID_ON, END, 30):
                shown = {8: 3, 40: 2, 7: 12}
                claim.comes(day, shown)
                self.assertEqual(list(shown.items()), [(8, 3), (40, 2), (7, 12)])

    def test_what_is_done_to_the_dict_later_changes_nothing(self):
        one = laid()
        shown = {}
        ahead = one.comes(END, shown)
        shown[8] = 3
        self.assertEqual(ahead, (20, 30, 50))
        self.assertEqual(one.comes(END, {}), (20, 30, 50))

    def some_shown(self):
        days = (None, 0, 11, 12, 19, 20, 29, 30)
        for first_days in itertools.product(days, repeat=3):
            yield {word: day for word, day in zip((7, 8, 9), first_days) if day is not None}


class TestMayStrike(unittest.TestCase):
    def test_the_other_side_with_that_very_strike(self):
        for pot in range(3):
            self.assertIs(laid(0).may_strike(pot, 1, LAID_ON, ("strike", pot, 0, 3)), True)
            self.assertIs(laid(1).may_strike(pot, 0, LAID_ON, ("strike", pot, 1, 3)), True)

    def test_ahead_of_the_end_of_the_wait_alone(self):
        for day in (LAID_ON, LAID_ON + 1, END - 1):
            self.assertIs(laid(0).may_strike(1, 1, day, ("strike", 1, 0, 3)), True)
        for day in (END, END + 1, 10 ** 6):
            self.assertIs(laid(0).may_strike(1, 1, day, ("strike", 1, 0, 3)), False)

    def test_never_by_the_side_that_laid_it(self):
        for strike in (("strike", 1, 0, 3), ("strike", 1, 1, 3)):
            self.assertIs(laid(0).may_strike(1, 0, LAID_ON, strike), False)
            self.assertIs(laid(1).may_strike(1, 1, LAID_ON, strike), False)

    def test_never_with_all_else(self):
        others = (
            ("strike", 1, 1, 3), ("strike", 0, 0, 3), ("strike", 2, 0, 3), ("strike", 1, 0, 2), ("strike", 1, 0, 4),
            ("strike", 1, 0, 0), ("agree", 1, 0, STAND), ("agree", 1, 1, STAND), ("word", 3), ("word", 7), None, True,
            False, 0, 3, "", "strike", "strike 1 0 3", [], ["strike", 1, 0, 3], {}, (), ("strike",), ("strike", 1, 0),
            ("strike", 1, 0, 3, 0), ("struck", 1, 0, 3), ("strike", 1, 0, STAND), ("strike", True, 0, 3),
            ("strike", 1, False, 3), ("strike", 1, 0, 3.0), ("strike", 1, 0, [3]), ("strike", 1, 0, THIRTY_FIGURES),
            (("strike", 1, 0, 3),), object(), len, STAND,
        )
        for thing in others:
            for day in (LAID_ON, END - 1, END):
                with self.subTest(thing=thing, day=day):
                    self.assertIs(laid(0).may_strike(1, 1, day, thing), False)

    def test_a_truth_is_no_number_of_a_stand(self):
        first_laid = Laid(7, 0, (0, (3, 4), ()), 0, 5)
        self.assertIs(first_laid.may_strike(0, 1, 0, ("strike", 0, 0, 0)), True)
        self.assertIs(first_laid.may_strike(0, 1, 0, ("strike", 0, 0, False)), False)
        second_laid = Laid(7, 1, (1, (3, 4), ()), 0, 5)
        self.assertIs(second_laid.may_strike(0, 0, 0, ("strike", 0, 1, 1)), True)
        self.assertIs(second_laid.may_strike(0, 0, 0, ("strike", 0, 1, True)), False)

    def test_held_and_taken_never(self):
        for claim in (Held(WHOLE), Taken(WHOLE, 0), Taken(WHOLE, 1)):
            for side in (0, 1):
                for thing in (("strike", 1, 0, 3), ("strike", 1, 1, 3), ("strike", 1, 0, 0), ("agree", 1, 0, STAND),
                              ("word", 7), None, "strike", []):
                    for day in (0, LAID_ON, END):
                        self.assertIs(claim.may_strike(1, side, day, thing), False)


if __name__ == "__main__":
    unittest.main()
