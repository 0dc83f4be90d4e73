import unittest

from sidebook.letters import is_letter, things_in

THIRTY_FIGURES = 10 ** 30 - 1
MOST_NUMBER = 10 ** 6
MOST_SHARE = 2 * 10 ** 12
NO_WHOLE_NUMBERS = (True, False, None, "1", "", [1], [], (1,), (), {}, 1.0, b"1", object())

TIE = (0, 5, 7, 12)
STAND = (3, (40, 55), (TIE,))
AGREE = ("agree", 1, 0, STAND)
STRIKE = ("strike", 1, 0, 3)

OFFER = ("offer", 1, AGREE)
ACCEPT = ("accept", 1, AGREE, STRIKE)
STRUCK = ("struck", 1, STRIKE)
ASK = ("ask", 1, (40, 55), (TIE,))
WORD = ("word", 1, 7)
LETTERS = (OFFER, ACCEPT, STRUCK, ASK, WORD)


class Sulky:
    def __eq__(self, other):
        raise RuntimeError("not to be compared")

    __hash__ = None


class TestIsLetter(unittest.TestCase):
    def check_letter(self, thing):
        with self.subTest(thing=thing):
            self.assertIs(is_letter(thing), True)

    def check_no_letter(self, thing):
        with self.subTest(thing=thing):
            self.assertIs(is_letter(thing), False)

    def test_each_kind(self):
        for letter in LETTERS:
            self.check_letter(letter)

    def test_pot_at_its_borders_and_beyond(self):
        for letter in LETTERS:
            for pot in (0, 1, 2):
                self.check_letter((letter[0], pot) + letter[2:])
            for pot in (-1, 3, THIRTY_FIGURES, -THIRTY_FIGURES, Sulky()) + NO_WHOLE_NUMBERS:
                self.check_no_letter((letter[0], pot) + letter[2:])

    def test_things_of_whatever_pot_and_side(self):
        for pot in range(3):
            for side in range(2):
                agree = ("agree", pot, side, STAND)
                strike = ("strike", pot, side, 3)
                self.check_letter(("offer", 1, agree))
                self.check_letter(("accept", 1, agree, STRIKE))
                self.check_letter(("accept", 1, AGREE, strike))
                self.check_letter(("struck", 1, strike))

    def test_things_at_their_borders_and_beyond(self):
        for number in (0, MOST_NUMBER):
            agree = ("agree", 1, 0, (number, (0, MOST_SHARE), ()))
            strike = ("strike", 1, 0, number)
            for letter in (("offer", 1, agree), ("accept", 1, agree, strike), ("struck", 1, strike)):
                self.check_letter(letter)
        for number in (-1, MOST_NUMBER + 1, THIRTY_FIGURES) + NO_WHOLE_NUMBERS:
            agree = ("agree", 1, 0, (number, (0, MOST_SHARE), ()))
            strike = ("strike", 1, 0, number)
            for letter in (("offer", 1, agree), ("accept", 1, agree, STRIKE), ("accept", 1, AGREE, strike),
                           ("struck", 1, strike)):
                self.check_no_letter(letter)

    def test_agree_and_strike_in_each_other_s_place(self):
        for letter in (("offer", 1, STRIKE), ("accept", 1, STRIKE, AGREE), ("accept", 1, AGREE, AGREE),
                       ("accept", 1, STRIKE, STRIKE), ("struck", 1, AGREE)):
            self.check_no_letter(letter)

    def test_what_is_no_such_thing(self):
        for thing in (
            ("word", 7), ("agree", 3, 0, STAND), ("agree", 1, 2, STAND), ("agree", 1, 0, 3), ("agree", 1, 0), ("agree",),
            list(AGREE), AGREE + (0,), ("strike", 3, 0, 3), ("strike", 1, 2, 3), ("strike", 1, 0), list(STRIKE),
            STRIKE + (0,), ("strike", True, 0, 3), ("agree", 1, False, STAND), STAND, None, True, 0, "", "agree",
            "strike", [], {}, (), Sulky(), object(),
        ):
            self.check_no_letter(("offer", 1, thing))
            self.check_no_letter(("accept", 1, thing, STRIKE))
            self.check_no_letter(("accept", 1, AGREE, thing))
            self.check_no_letter(("struck", 1, thing))

    def test_shares_and_ties_of_an_ask(self):
        six = tuple((k % 2, 1, k, 9) for k in range(6))
        for shares, ties in (((0, 0), ()), ((MOST_SHARE, MOST_SHARE), ()), ((1, 2), six),
                             ((1, 2), ((1, 10 ** 12, 59, 10 ** 6),)), ((1, 2), ((0, 1, 0, 0),))):
            self.check_letter(("ask", 1, shares, ties))
        for shares in ((-1, 0), (0, -1), (MOST_SHARE + 1, 0), (0, MOST_SHARE + 1), (1,), (1, 2, 3), [1, 2], (True, 2),
                       (1, None), None, 1, "", (), Sulky()):
            self.check_no_letter(("ask", 1, shares, ()))
        for ties in (None, 0, "", [], [TIE], TIE, (TIE, TIE), (TIE, (1, 5, 7, 30)), six + ((0, 1, 6, 9),), ((0, 5, 7),),
                     ((2, 5, 7, 12),), ((0, 0, 7, 12),), ((0, 10 ** 12 + 1, 7, 12),), ((0, 5, 60, 12),),
                     ((0, 5, 7, 10 ** 6 + 1),), ((0, 5, 7, -1),), ((False, 5, 7, 12),), (list(TIE),), Sulky(), (Sulky(),)):
            self.check_no_letter(("ask", 1, (40, 55), ties))

    def test_word_at_its_borders_and_beyond(self):
        for word in (0, 1, 59):
            self.check_letter(("word", 1, word))
        for word in (-1, 60, THIRTY_FIGURES, -THIRTY_FIGURES, ("word", 7), Sulky()) + NO_WHOLE_NUMBERS:
            self.check_no_letter(("word", 1, word))

    def test_other_lengths(self):
        for letter in LETTERS:
            for length in range(len(letter)):
                self.check_no_letter(letter[:length])
            for more in (None, 0, (), AGREE, STRIKE):
                self.check_no_letter(letter + (more,))

    def test_other_kinds(self):
        for kind in ("", "Offer", "offers", "agree", "strike", "accepted", "wor", "ask ", None, True, 0, b"offer", [],
                     ("offer",), Sulky()):
            for letter in LETTERS:
                self.check_no_letter((kind,) + letter[1:])

    def test_the_parts_of_another_kind_s(self):
        for kind in ("offer", "accept", "struck", "ask", "word"):
            for letter in LETTERS:
                if letter[0] != kind:
                    self.check_no_letter((kind,) + letter[1:])

    def test_lists_in_the_place_of_tuples(self):
        for letter in LETTERS:
            self.check_no_letter(list(letter))

    def test_anything(self):
        for thing in (None, True, False, 0, 7, THIRTY_FIGURES, 1.5, "", "offer", "word 1 7", b"", [], {}, (), set(),
                      object(), len, ValueError, STAND, AGREE, STRIKE, ("word", 7), (OFFER,), (1, OFFER), {0: "word"},
                      Sulky(), (Sulky(),), (Sulky(), 1, 7), (None, None, None)):
            self.check_no_letter(thing)


class TestThingsIn(unittest.TestCase):
    def test_each_kind_in_order(self):
        self.assertEqual(things_in(OFFER), [AGREE])
        self.assertEqual(things_in(ACCEPT), [AGREE, STRIKE])
        self.assertEqual(things_in(STRUCK), [STRIKE])
        self.assertEqual(things_in(ASK), [])
        self.assertEqual(things_in(WORD), [("word", 7)])

    def test_of_whatever_pot_and_side(self):
        agree = ("agree", 2, 1, (0, (0, 0), ()))
        strike = ("strike", 0, 1, 9)
        self.assertEqual(things_in(("offer", 1, agree)), [agree])
        self.assertEqual(things_in(("accept", 1, agree, strike)), [agree, strike])
        self.assertEqual(things_in(("struck", 1, strike)), [strike])
        for word in (0, 59):
            self.assertEqual(things_in(("word", 2, word)), [("word", word)])

    def test_a_new_list_each_time(self):
        for letter in LETTERS:
            told = things_in(letter)
            self.assertIs(type(told), list)
            ahead = list(told)
            told.append(None)
            self.assertEqual(things_in(letter), ahead)


if __name__ == "__main__":
    unittest.main()
