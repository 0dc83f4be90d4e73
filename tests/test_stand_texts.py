import random
import unittest

from sidebook.errors import NoStand, NoText
from sidebook.stand_texts import read_number, read_stand, read_thing, show_stand, show_thing
from sidebook.stands import is_stand
from sidebook.things import is_thing

MOST = 10 ** 12
NO_TEXTS = (None, 0, 7, True, False, b"7", ["7"], ("7",), {}, (), (3, (40, 55), ()), ("word", 7), object())
# Texts that stand for one number nowhere.
NO_NUMBERS = (
    "", " ", "00", "01", "007", "+7", "-7", "-0", "7 ", " 7", "7\n", "\n7", "7.0", "7,0", "1_000", "0x7", "a", "7a",
    "1e3", "1 2",
    "1" * 31, "9" * 31, "0" * 30, "~", "/", ":", "\u0667", "\u00b2", "\uff17",
)
STANDS = (
    ((3, (40, 55), ((0, 5, 7, 12),)), "3 40 55 0/5/7/12"),
    ((0, (0, 0), ()), "0 0 0"),
    ((1, (60, 40), ()), "1 60 40"),
    ((12, (1, 2), ((1, 5, 7, 12), (0, 30, 0, 0))), "12 1 2 1/5/7/12 0/30/0/0"),
    (
        (10 ** 6, (2 * MOST, 2 * MOST), ((1, MOST, 59, 10 ** 6),)),
        "1000000 2000000000000 2000000000000 1/1000000000000/59/1000000",
    ),
    ((5, (0, 1), tuple((k % 2, k + 1, 9 - k, 20 + k) for k in range(6))),
     "5 0 1 0/1/9/20 1/2/8/21 0/3/7/22 1/4/6/23 0/5/5/24 1/6/4/25"),
)
# Of the form, but no stands.
NO_STANDS = (
    "1000001 1 1", "0 2000000000001 0", "0 0 2000000000001", "0 1 1 2/5/7/12", "0 1 1 0/0/7/12",
    "0 1 1 0/1000000000001/7/12",
    "0 1 1 0/5/60/12", "0 1 1 0/5/7/1000001", "0 1 1 0/5/7/12 1/6/7/13",
    "0 1 1 0/1/0/9 0/1/1/9 0/1/2/9 0/1/3/9 0/1/4/9 0/1/5/9 0/1/6/9",
    "9" * 30 + " 1 1", "1 " + "9" * 30 + " 1",
)
THINGS = (
    (("word", 7), "word 7"),
    (("word", 0), "word 0"),
    (("word", 59), "word 59"),
    (("strike", 0, 1, 3), "strike 0 1 3"),
    (("strike", 2, 0, 10 ** 6), "strike 2 0 1000000"),
    (("agree", 1, 0, (3, (40, 55), ((0, 5, 7, 12),))), "agree 1 0 3 40 55 0/5/7/12"),
    (("agree", 0, 1, (0, (0, 0), ())), "agree 0 1 0 0 0"),
)


def spoilt(text):
    """Texts that are no longer of the form, by one sign or one word."""
    made = [text + " ", " " + text, text + "\n", "\n" + text, text + "x", "x" + text, "-" + text, text + "/",
            text + " 0/"]
    made += [text.replace(" ", "  ", 1), text.replace(" ", "\n", 1), text.replace(" ", "", 1) + " x",
             text.replace(" ", ",")]
    made += [text + " 1/2/3", text + " 1/2/3/4/5", text + " 1 2", text + " 0/5/07/12", text + " /5/7/12",
             text + " 0//7/12"]
    made += [text + " 0/+5/7/12", text + " 0/5/7/12 ", text + " 0 /5/7/12", text + " 0:5:7:12", text.upper() + "A", ""]
    return made


class TestNumbers(unittest.TestCase):
    def check_read(self, text, number):
        told = read_number(text)
        self.assertEqual(told, number)
        self.assertIs(told.__class__, int)

    def test_read(self):
        for number in (0, 1, 7, 9, 10, 42, 100, 1000000, MOST, 10 ** 29, 10 ** 30 - 1):
            self.check_read(str(number), number)

    def test_one_and_thirty_figures(self):
        for figure in range(10):
            self.check_read(str(figure), figure)
        self.check_read("9" * 30, 10 ** 30 - 1)
        self.check_read("1" + "0" * 29, 10 ** 29)

    def test_no_number(self):
        for text in NO_NUMBERS:
            with self.assertRaises(NoText, msg=text):
                read_number(text)

    def test_a_zero_ahead(self):
        for text in ("00", "01", "09", "0" + "9" * 29, "000"):
            with self.assertRaises(NoText):
                read_number(text)

    def test_each_other_sign(self):
        for code in list(range(32, 127)) + [10]:
            sign = chr(code)
            if sign not in "0123456789":
                for text in (sign, "1" + sign, sign + "1", "1" + sign + "1"):
                    with self.assertRaises(NoText, msg=text):
                        read_number(text)

    def test_no_text(self):
        for thing in NO_TEXTS:
            with self.assertRaises(NoText):
                read_number(thing)

    def test_by_name(self):
        self.assertEqual(read_number(text="12"), 12)


class TestStands(unittest.TestCase):
    def test_written(self):
        for one, text in STANDS:
            self.assertTrue(is_stand(one))
            self.assertEqual(show_stand(one), text)
            self.assertEqual(show_stand(one=one), text)

    def test_read(self):
        for one, text in STANDS:
            self.assertEqual(read_stand(text), one)
            self.assertEqual(read_stand(text=text), one)

    def test_what_is_read_is_made_of_tuples(self):
        one = read_stand("3 40 55 0/5/7/12")
        self.assertTrue(is_stand(one))
        self.assertEqual(repr(one), "(3, (40, 55), ((0, 5, 7, 12),))")

    def test_not_of_the_form(self):
        for one, text in STANDS:
            for other in spoilt(text):
                with self.assertRaises(NoText, msg=other):
                    read_stand(other)

    def test_too_few(self):
        for text in ("", "3", "3 40", "3 40 0/5/7/12", "0/5/7/12", "3 0/5/7/12", " ", "  "):
            with self.assertRaises(NoText, msg=text):
                read_stand(text)

    def test_each_number_is_one(self):
        for number in NO_NUMBERS:
            for text in (f"{number} 40 55", f"3 {number} 55", f"3 40 {number}", f"3 40 55 {number}/5/7/12",
                         f"3 40 55 0/{number}/7/12",
                         f"3 40 55 0/5/{number}/12", f"3 40 55 0/5/7/{number}"):
                with self.assertRaises(NoText, msg=text):
                    read_stand(text)

    def test_no_text(self):
        for thing in NO_TEXTS:
            with self.assertRaises(NoText):
                read_stand(thing)

    def test_of_the_form_but_no_stand(self):
        for text in NO_STANDS:
            with self.assertRaises(NoStand, msg=text):
                read_stand(text)

    def test_the_form_comes_first(self):
        for text in NO_STANDS:
            for other in (text + " ", text + " x", text + " 1/2/3", " " + text, text + " 00/5/7/12"):
                with self.assertRaises(NoText, msg=other):
                    read_stand(other)

    def test_thirty_figures_are_of_the_form_and_thirty_one_are_not(self):
        with self.assertRaises(NoStand):
            read_stand("1 1 1 0/5/7/" + "9" * 30)
        with self.assertRaises(NoText):
            read_stand("1 1 1 0/5/7/" + "9" * 31)

    def test_drawn_stands_are_read_again(self):
        draw = random.Random(40)
        for count in range(300):
            words = draw.sample(range(60), draw.randint(0, 6))
            ties = tuple(
                (draw.randint(0, 1), draw.randint(1, MOST), word, draw.randint(0, 10 ** 6)) for word in words
            )
            one = (draw.randint(0, 10 ** 6), (draw.randint(0, 2 * MOST), draw.randint(0, 99)), ties)
            self.assertEqual(read_stand(show_stand(one)), one)


class TestThings(unittest.TestCase):
    def test_written(self):
        for thing, text in THINGS:
            self.assertTrue(is_thing(thing))
            self.assertEqual(show_thing(thing), text)
            self.assertEqual(show_thing(thing=thing), text)

    def test_read(self):
        for thing, text in THINGS:
            self.assertEqual(read_thing(text), thing)
            self.assertTrue(is_thing(read_thing(text=text)))

    def test_not_of_the_form(self):
        for thing, text in THINGS:
            for other in spoilt(text):
                with self.assertRaises(NoText, msg=other):
                    read_thing(other)

    def test_too_few_and_too_many(self):
        for text in ("word", "word ", "word 7 8", "strike", "strike 0", "strike 0 1", "strike 0 1 3 4", "agree",
                     "agree 0", "agree 0 1",
                     "agree 0 1 ", "agree 0 1 3", "agree 0 1 3 40", "7", "3 40 55", "give 0 1", "Word 7", "WORD 7",
                     "words 7",
                     "strikes 0 1 3", "agree 0 1 3 40 55 6", "word/7", " word 7", "word\n7", "word  7", "0 word"):
            with self.assertRaises(NoText, msg=text):
                read_thing(text)

    def test_each_number_is_one(self):
        for number in NO_NUMBERS:
            for text in (f"word {number}", f"strike {number} 1 3", f"strike 0 {number} 3", f"strike 0 1 {number}",
                         f"agree {number} 1 3 40 55", f"agree 0 {number} 3 40 55", f"agree 0 1 {number} 40 55",
                         f"agree 0 1 3 40 55 0/5/7/{number}"):
                with self.assertRaises(NoText, msg=text):
                    read_thing(text)

    def test_no_text(self):
        for thing in NO_TEXTS:
            with self.assertRaises(NoText):
                read_thing(thing)

    def test_of_the_form_but_no_thing(self):
        for text in ("word 60", "word " + "9" * 30, "strike 3 0 0", "strike 0 2 0", "strike 0 0 1000001",
                     "agree 3 0 0 1 1",
                     "agree 0 2 0 1 1", "strike " + "9" * 30 + " 0 0", "agree 7 7 3 40 55 0/5/7/12"):
            with self.assertRaises(NoText, msg=text):
                read_thing(text)

    def test_an_agree_with_a_stand_that_is_none(self):
        for text in NO_STANDS:
            for ahead in ("agree 0 1 ", "agree 3 0 ", "agree 0 2 ", "agree " + "9" * 30 + " 7 "):
                with self.assertRaises(NoStand, msg=text):
                    read_thing(ahead + text)
            for ahead in ("agree 0 x ", "agree  1 ", "agree 00 1 ", "strike 0 1 ", "agrees 0 1 "):
                with self.assertRaises(NoText, msg=text):
                    read_thing(ahead + text)


if __name__ == "__main__":
    unittest.main()
