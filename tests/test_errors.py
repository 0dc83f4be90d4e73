import unittest

from sidebook.errors import BookError, NoDeed, NoPot, NoSpan, NoStand, NoText
from sidebook.stands import stand

REFUSALS = (NoStand, NoDeed, NoPot, NoSpan, NoText)


class TestRefusals(unittest.TestCase):
    def test_book_error_stands_straight_under_value_error(self):
        self.assertEqual(BookError.__bases__, (ValueError,))

    def test_each_refusal_stands_straight_under_book_error(self):
        for refusal in REFUSALS:
            with self.subTest(refusal=refusal.__name__):
                self.assertEqual(refusal.__bases__, (BookError,))

    def test_no_refusal_stands_under_another(self):
        for one in REFUSALS:
            for two in REFUSALS:
                if one is not two:
                    with self.subTest(one=one.__name__, two=two.__name__):
                        self.assertFalse(issubclass(one, two))

    def test_no_pot_has_the_pot_s_number(self):
        for pot in range(4):
            self.assertEqual(NoPot(pot).pot, pot)

    def test_no_stand_is_taken_by_book_error_and_by_value_error(self):
        for taker in (NoStand, BookError, ValueError):
            with self.subTest(taker=taker.__name__):
                with self.assertRaises(taker):
                    stand(-1, (0, 0))

    def test_no_stand_is_none_of_the_other_refusals(self):
        for other in (NoDeed, NoPot, NoSpan, NoText):
            with self.subTest(other=other.__name__):
                with self.assertRaises(NoStand) as caught:
                    stand(-1, (0, 0))
                self.assertNotIsInstance(caught.exception, other)


if __name__ == "__main__":
    unittest.main()
