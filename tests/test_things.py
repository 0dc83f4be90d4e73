import unittest

from sidebook.things import is_thing, makes

THIRTY_FIGURES = 10 ** 30 - 1
MOST_NUMBER = 10 ** 6
STAND = (3, (40, 55), ((0, 5, 7, 12),))
NO_WHOLE_NUMBERS = (True, False, None, "1", "", [1], [], (1,), (), {}, 1.0, b"1", object())

WORD = ("word", 7)
STRIKE = ("strike", 1, 0, 3)
AGREE = ("agree", 1, 0, STAND)


class Sulky:
    def __eq__(self, other):
        raise RuntimeError("not to be compared")

    __hash__ = None


ODD_THINGS = (
    Sulky(), (Sulky(),), (Sulky(), 7), (Sulky(), 1, 0, 3), ("word", Sulky()), ("strike", 1, Sulky(), 3),
    ("agree", 1, 0, Sulky()),
    None, True, False, 0, 7, -1, THIRTY_FIGURES, 1.5, "", "word", "strike", "agree", "word 7", b"word", [], {}, (),
    set(), object(), len, int, ValueError, STAND, ["word", 7], ["strike", 1, 0, 3], ["agree", 1, 0, STAND],
    {0: "word", 1: 7}, (None,), (None, 7), (("word", 7),), (["word"], 7), ({}, 7), (7, "word"), (True, 1, 0, 3),
)


class TestIsThing(unittest.TestCase):
    def check_thing(self, thing):
        with self.subTest(thing=thing):
            self.assertIs(is_thing(thing), True)

    def check_no_thing(self, thing):
        with self.subTest(thing=thing):
            self.assertIs(is_thing(thing), False)

    def test_each_kind(self):
        for thing in (WORD, STRIKE, AGREE):
            self.check_thing(thing)

    def test_word_at_its_borders_and_out_of_them(self):
        for word in (0, 1, 30, 59):
            self.check_thing(("word", word))
        for word in (-1, 60, THIRTY_FIGURES, -THIRTY_FIGURES) + NO_WHOLE_NUMBERS:
            self.check_no_thing(("word", word))

    def test_pot_at_its_borders_and_out_of_them(self):
        for pot in (0, 1, 2):
            self.check_thing(("strike", pot, 0, 3))
            self.check_thing(("agree", pot, 0, STAND))
        for pot in (-1, 3, THIRTY_FIGURES, -THIRTY_FIGURES) + NO_WHOLE_NUMBERS:
            self.check_no_thing(("strike", pot, 0, 3))
            self.check_no_thing(("agree", pot, 0, STAND))

    def test_side_at_its_borders_and_out_of_them(self):
        for side in (0, 1):
            self.check_thing(("strike", 1, side, 3))
            self.check_thing(("agree", 1, side, STAND))
        for side in (-1, 2, THIRTY_FIGURES, -THIRTY_FIGURES) + NO_WHOLE_NUMBERS:
            self.check_no_thing(("strike", 1, side, 3))
            self.check_no_thing(("agree", 1, side, STAND))

    def test_number_of_a_strike_at_its_borders_and_out_of_them(self):
        for number in (0, 1, MOST_NUMBER):
            self.check_thing(("strike", 1, 0, number))
        for number in (-1, MOST_NUMBER + 1, THIRTY_FIGURES, -THIRTY_FIGURES) + NO_WHOLE_NUMBERS:
            self.check_no_thing(("strike", 1, 0, number))

    def test_stand_of_an_agree(self):
        for stand in ((0, (0, 0), ()), (MOST_NUMBER, (2 * 10 ** 12, 0), ()), STAND):
            self.check_thing(("agree", 1, 0, stand))
        for stand in (
            3, None, True, "", (), [3, (40, 55), ()], (3, [40, 55], ()), (3, (40, 55), []), (3, (40, 55)),
            (MOST_NUMBER + 1, (40, 55), ()), (-1, (40, 55), ()), (True, (40, 55), ()), (3, (40, -1), ()),
            (3, (40, 55), ((0, 0, 7, 12),)), (3, (40, 55), ((0, 5, 7, 12), (1, 5, 7, 12))),
        ):
            self.check_no_thing(("agree", 1, 0, stand))

    def test_strike_and_agree_are_not_told_by_the_other_s_part(self):
        self.check_no_thing(("strike", 1, 0, STAND))
        self.check_no_thing(("agree", 1, 0, 3))
        self.check_no_thing(("word", 1, 0, 3))
        self.check_no_thing(("strike", 7))

    def test_other_lengths(self):
        for thing in (WORD, STRIKE, AGREE):
            for length in range(len(thing)):
                self.check_no_thing(thing[:length])
            self.check_no_thing(thing + (0,))
            self.check_no_thing(thing + (None,))

    def test_other_kinds(self):
        for kind in ("", "Word", "words", "wor", "struck", "offer", "strike ", None, True, 0, b"word", [], ("word",)):
            self.check_no_thing((kind, 7))
            self.check_no_thing((kind, 1, 0, 3))
            self.check_no_thing((kind, 1, 0, STAND))

    def test_lists_in_the_place_of_tuples(self):
        for thing in (WORD, STRIKE, AGREE):
            self.check_no_thing(list(thing))

    def test_anything(self):
        for thing in ODD_THINGS:
            self.check_no_thing(thing)


class TestMakes(unittest.TestCase):
    def test_one_s_own(self):
        for pot in range(3):
            for side in range(2):
                self.assertIs(makes(pot, side, ("strike", pot, side, 3)), True)
                self.assertIs(makes(pot, side, ("agree", pot, side, STAND)), True)

    def test_each_side_of_each_pot_makes_just_its_own(self):
        own = [(pot, side) for pot in range(3) for side in range(2)]
        for maker in own:
            for of in own:
                with self.subTest(maker=maker, of=of):
                    self.assertIs(makes(maker[0], maker[1], ("strike", of[0], of[1], 3)), maker == of)
                    self.assertIs(makes(maker[0], maker[1], ("agree", of[0], of[1], STAND)), maker == of)

    def test_any_number_and_any_stand_of_one_s_own(self):
        for number in (0, 1, MOST_NUMBER):
            self.assertIs(makes(0, 1, ("strike", 0, 1, number)), True)
            self.assertIs(makes(0, 1, ("agree", 0, 1, (number, (0, 0), ()))), True)

    def test_words_nobody_makes(self):
        for word in (0, 1, 2, 7, 59):
            for pot in range(3):
                for side in range(2):
                    self.assertIs(makes(pot, side, ("word", word)), False)

    def test_what_is_no_thing_nobody_makes(self):
        no_things = ODD_THINGS + (
            ("strike", 1, 0), ("strike", 1, 0, -1), ("strike", 1, 0, MOST_NUMBER + 1), ("strike", 1, 0, True),
            ("strike", 1, 0, 3, 0), ("strike", 1, False, 3), ("strike", True, 0, 3), ("strike", 1, 0.0, 3),
            ("agree", 1, 0), ("agree", 1, 0, 3), ("agree", 1, 0, list(STAND)), ("agree", 1, 0, (3, (40, -1), ())),
            ("agree", True, 0, STAND), ("agree", 1, False, STAND), ("struck", 1, 0, 3),
        )
        for thing in no_things:
            with self.subTest(thing=thing):
                self.assertIs(makes(1, 0, thing), False)

    def test_a_pot_or_side_beyond_its_bounds_makes_nothing(self):
        for pot, side in ((3, 0), (-1, 0), (1, 2), (1, -1)):
            self.assertIs(makes(pot, side, ("strike", 1, 0, 3)), False)
            self.assertIs(makes(pot, side, ("strike", pot, side, 3)), False)
            self.assertIs(makes(pot, side, ("agree", pot, side, STAND)), False)


if __name__ == "__main__":
    unittest.main()
