import unittest

from sidebook.book import Book
from sidebook.errors import NoDeed, NoStand, NoText
from sidebook.keeper import Keeper
from sidebook.kept import kept, read_kept

# Hand 0 is left of pot 0 and right of pot 1, and in pot 2 it isn't.
POTS = [(0, 1, 60, 40, 5), (2, 0, 70, 30, 6), (1, 2, 10, 10, 4)]
NEW = """hand 0 3 0 0
words
pot 0 0 100 calm
mine 0 60 40
claim held
seen
pot 1 1 100 calm
mine 0 70 30
claim held
seen"""
# Offered in pot 0, waiting in pot 1.
UNDER_WAY = """hand 0 3 4 10
words 3 7 12
pot 0 0 100 offered
mine 0 60 40
other 1 50 50
claim held
seen 7/2 12/4
finish
pot 1 1 100 waiting
mine 1 65 30 0/5/3/20
other 0 70 30
claim held
seen
asked 4 0 74 26"""
# Pot 0 is laid by the hand itself, pot 1 was struck by it.
OVER = """hand 0 3 6 8
words
pot 0 0 100 calm
mine 1 52 48
claim laid 0 6 1 52 48
seen
finish
pot 1 1 100 calm
mine 1 70 30
claim taken 1
seen"""
NO_TEXTS = (None, 0, True, b"hand 0 3 0 0\nwords", [], (), {}, ["hand 0 3 0 0", "words"], Keeper(0, 3, POTS), object())
BAD_NUMBERS = ("", "x", "-1", "+1", "01", "00", "1.0", "9" * 31, "1/2", "\n")
BAD_STANDS = ("0 2000000000001 0", "1000001 1 1", "0 1 1 2/5/7/12", "0 1 1 0/5/60/12", "0 1 1 0/5/7/9 1/5/7/9",
              "9" * 30 + " 0 0")


def offer(pot, one):
    return ("offer", pot, ("agree", pot, 0, one))


def accept(pot, one):
    return ("accept", pot, ("agree", pot, 1, one), ("strike", pot, 1, one[0] - 1))


def struck(pot, number):
    return ("struck", pot, ("strike", pot, 0, number))


def book_on(day):
    book = Book(POTS)
    for count in range(day):
        book.next_day()
    return book


def new():
    return Keeper(0, 3, POTS)


def under_way():
    keeper = Keeper(0, 3, POTS, [3])
    book = book_on(2)
    book.show(0, 7)
    book.next_day()
    book.next_day()
    book.show(0, 12)
    keeper.look(book)
    keeper.wish(("give", 1, 4))
    keeper.wish(("give", 0, 10))
    keeper.take(offer(1, (1, (65, 30), ((0, 5, 3, 20),))))
    keeper.wish(("finish", 0))
    return keeper


def over():
    keeper = Keeper(0, 3, POTS)
    keeper.wish(("give", 0, 8))
    keeper.take(accept(0, (1, (52, 48), ())))
    keeper.take(offer(1, (1, (70, 30), ())))
    keeper.take(struck(1, 0))
    keeper.wish(("finish", 0))
    book = book_on(5)
    book.lay(1, 0, (0, (70, 30), ()))
    book.next_day()
    keeper.look(book)
    return keeper


def values_of(account):
    return (
        account.pot, account.side, account.mine, account.grant, list(account.may), list(account.strikes),
        account.word(),
    )


def state_of(keeper):
    accounts = []
    for pot in range(3):
        try:
            accounts.append(values_of(keeper.account(pot)))
        except NoDeed:
            accounts.append(None)
    return (accounts, keeper.words(), keeper.looked(), keeper.given(), keeper.worth(), keeper.paper())


def with_line(text, place, line):
    lines = text.split("\n")
    lines[place] = line
    return "\n".join(lines)


class TestWritten(unittest.TestCase):
    def test_new(self):
        self.assertEqual(kept(new()), NEW)
        self.assertEqual(kept(keeper=new()), NEW)

    def test_in_no_pot(self):
        self.assertEqual(kept(Keeper(3, 50, POTS, [7, 59, 0, 7])), "hand 3 50 0 0\nwords 0 7 59")
        self.assertEqual(kept(Keeper(2, 1, [])), "hand 2 1 0 0\nwords")

    def test_under_way(self):
        self.assertEqual(kept(under_way()), UNDER_WAY)

    def test_over(self):
        self.assertEqual(kept(over()), OVER)

    def test_each_claim(self):
        book = book_on(5)
        one = (1, (50, 45), ((0, 5, 9, 30),))
        book.lay(0, 1, one, ("agree", 0, 0, one))
        book.lay(1, 1, (0, (70, 30), ()))
        keeper = new()
        keeper.look(book)
        lines = kept(keeper).split("\n")
        self.assertEqual([line for line in lines if line.startswith("claim")],
                         ["claim laid 1 5 1 50 45 0/5/9/30", "claim laid 1 5 0 70 30"])
        book.strike(0, 0, ("strike", 0, 1, 1))
        book.strike(1, 0, ("strike", 1, 1, 0))
        keeper.look(book)
        lines = kept(keeper).split("\n")
        self.assertEqual([line for line in lines if line.startswith("claim")], ["claim taken 0", "claim taken 0"])

    def test_seen_rises(self):
        book = book_on(1)
        for word in (30, 4, 12):
            book.show(1, word)
            book.next_day()
        keeper = new()
        keeper.look(book)
        self.assertEqual(kept(keeper).split("\n")[-1], "seen 4/2 12/3 30/1")
        self.assertEqual(kept(keeper).split("\n")[1], "words 4 12 30")

    def test_asked_with_ties_and_finish(self):
        keeper = Keeper(0, 3, POTS)
        keeper.wish(("pay", 1, 5, 7, 12))
        keeper.wish(("finish", 1))
        self.assertTrue(kept(keeper).endswith("seen\nasked 5 0 70 25 1/5/7/12\nfinish"))
        keeper.wish(("give", 1, 2))
        self.assertTrue(kept(keeper).endswith("seen\nasked 2 0 72 28\nfinish"))
        keeper.take(offer(1, (1, (72, 28), ())))
        self.assertTrue(kept(keeper).endswith("claim held\nseen\nfinish"))

    def test_asked_and_finish_stay_when_the_pot_is_no_longer_held(self):
        keeper = Keeper(0, 3, POTS)
        keeper.wish(("give", 1, 2))
        keeper.wish(("finish", 1))
        keeper.look(book_on(2))
        self.assertTrue(kept(keeper).endswith("claim laid 1 2 0 70 30\nseen\nasked 2 0 72 28\nfinish"))

    def test_great_numbers(self):
        most = 10 ** 12
        keeper = Keeper(3, 50, [(3, 1, most, most, 100)])
        keeper.wish(("give", 0, most))
        self.assertEqual(
            kept(keeper),
            f"hand 3 50 0 {most}\nwords\npot 0 0 {2 * most} offered\nmine 0 {most} {most}\n"
            f"other 1 0 {2 * most}\nclaim held\nseen",
        )

    def test_writing_changes_nothing(self):
        keeper = under_way()
        before = state_of(keeper)
        self.assertEqual(kept(keeper), kept(keeper))
        self.assertEqual(state_of(keeper), before)


class TestRead(unittest.TestCase):
    def hands(self):
        many = [new(), under_way(), over(), Keeper(3, 50, POTS, [7, 59]), Keeper(2, 1, [])]
        keeper = Keeper(0, 3, POTS)
        for number in range(1, 12):
            keeper.wish(("give", 0, 1))
            keeper.take(accept(0, keeper.account(0).may[1]))
            keeper.take(offer(1, (number, (70 - number, 30 + number), ())))
            keeper.take(struck(1, number - 1))
        many.append(keeper)
        return many

    def test_the_same_hand(self):
        for keeper in self.hands():
            text = kept(keeper)
            again = read_kept(text)
            self.assertIsInstance(again, Keeper)
            self.assertEqual(state_of(again), state_of(keeper))
            self.assertEqual(kept(again), text)
            self.assertEqual(kept(read_kept(text=text)), text)

    def test_texts(self):
        for text in (NEW, UNDER_WAY, OVER, "hand 3 50 0 0\nwords 0 7 59",
                     "hand 0 1 999 123456789012345678901234567890\nwords"):
            self.assertEqual(kept(read_kept(text)), text)

    def test_strikes_and_grants(self):
        keeper = self.hands()[-1]
        again = read_kept(kept(keeper))
        self.assertEqual(again.account(0).strikes, list(range(11)))
        self.assertEqual(again.account(0).grant, ("agree", 0, 1, (11, (49, 51), ())))
        self.assertEqual(again.account(1).strikes, list(range(11)))
        self.assertEqual(again.account(1).grant, ("agree", 1, 0, (11, (59, 41), ())))

    def test_the_same_answers(self):
        deeds = (
            lambda keeper: keeper.wish(("give", 0, 5)), lambda keeper: keeper.wish(("pass", 1, 1, 7, 9)),
            lambda keeper: keeper.take(accept(0, (1, (50, 50), ()))), lambda keeper: keeper.take(struck(1, 0)),
            lambda keeper: keeper.take(offer(1, (1, (74, 26), ()))),
            lambda keeper: keeper.take(offer(1, (2, (74, 26), ()))),
            lambda keeper: keeper.take(("ask", 0, (100, 0), ())), lambda keeper: keeper.wish(("finish", 1)),
            lambda keeper: keeper.look(book_on(18)),
        )
        for keeper in self.hands():
            for deed in deeds:
                again = read_kept(kept(keeper))
                self.assertEqual(deed(again), deed(keeper))
                self.assertEqual(state_of(again), state_of(keeper))
                self.assertEqual(kept(again), kept(keeper))

    def test_it_strikes_as_the_other_would(self):
        for late, deeds in ((4, [("strike", 0)]), (5, [])):
            keeper = self.hands()[-1]
            book = Book(POTS)
            book.lay(0, 1, (10, (50, 50), ()), ("agree", 0, 0, (10, (50, 50), ())))
            for count in range(late):
                book.next_day()
            self.assertEqual(read_kept(kept(keeper)).look(book), deeds)

    def test_each_hand_is_its_own(self):
        keeper = new()
        again = read_kept(kept(keeper))
        keeper.wish(("give", 0, 5))
        keeper.take(("word", 0, 7))
        self.assertEqual(kept(again), NEW)


class TestRefused(unittest.TestCase):
    def check_no_text(self, text):
        with self.assertRaises(NoText, msg=repr(text)):
            read_kept(text)

    def check_no_stand(self, text):
        with self.assertRaises(NoStand, msg=repr(text)):
            read_kept(text)

    def test_no_text(self):
        for thing in NO_TEXTS:
            self.check_no_text(thing)

    def test_no_lines(self):
        for text in ("", "\n", "hand", "words", "hand 0 3 0 0", "hand 0 3 0 0\n", "words\nhand 0 3 0 0", "x",
                     "hand 0 3 0 0 words"):
            self.check_no_text(text)

    def test_line_ends(self):
        for text in (NEW, UNDER_WAY, OVER):
            self.check_no_text(text + "\n")
            self.check_no_text("\n" + text)
            self.check_no_text(text.replace("\n", "\n\n", 1))
            self.check_no_text(text.replace("\n", " \n", 1))
            self.check_no_text(text.replace("\n", "\r\n"))
            self.check_no_text(text.replace("\n", " "))

    def test_line_left_out(self):
        for text in (NEW, UNDER_WAY, OVER):
            lines = text.split("\n")
            for place, line in enumerate(lines):
                rest = "\n".join(lines[:place] + lines[place + 1:])
                if line.split(" ")[0] in ("asked", "finish"):
                    self.assertEqual(kept(read_kept(rest)), rest)
                else:
                    self.check_no_text(rest)

    def test_cut_off(self):
        for text in (NEW, UNDER_WAY, OVER):
            lines = text.split("\n")
            for place, line in enumerate(lines):
                rest = "\n".join(lines[:place])
                whole = line.split(" ")[0] in ("pot", "asked", "finish") and place > 1
                if whole:
                    self.assertEqual(kept(read_kept(rest)), rest)
                else:
                    self.check_no_text(rest)

    def test_lines_changed_about(self):
        for text in (NEW, UNDER_WAY, OVER, UNDER_WAY + "\nfinish"):
            lines = text.split("\n")
            for place in range(len(lines) - 1):
                self.check_no_text("\n".join(lines[:place] + [lines[place + 1], lines[place]] + lines[place + 2:]))

    def test_line_put_in_twice(self):
        for text in (NEW, UNDER_WAY, OVER, UNDER_WAY + "\nfinish"):
            lines = text.split("\n")
            for place, line in enumerate(lines):
                self.check_no_text("\n".join(lines[:place] + [line] + lines[place:]))

    def test_pots_changed_about_or_put_in_twice(self):
        head, left, right = NEW.split("\npot ")
        for pots in ((right, left), (left, left), (right, right), (left, right, left), (left, right, right)):
            self.check_no_text("\npot ".join((head,) + pots))
        for pots in ((left,), (right,), ()):
            text = "\npot ".join((head,) + pots)
            self.assertEqual(kept(read_kept(text)), text)

    def test_line_spoilt(self):
        for text in (NEW, UNDER_WAY, OVER):
            for place, line in enumerate(text.split("\n")):
                for spoilt in (
                    line + " ", " " + line, line + " x", line + " -1", line.upper(), "x" + line, line + "x", "", "x",
                    line.replace(" ", "  ", 1) + " ",
                    line + " 1/2/3/4/5", line + " 01", line.split(" ")[0] + "s" + line[len(line.split(" ")[0]):],
                    line + "/",
                ):
                    self.check_no_text(with_line(text, place, spoilt))

    def test_each_number_is_one(self):
        for text in (NEW, UNDER_WAY, OVER):
            for place, line in enumerate(text.split("\n")):
                parts = line.split(" ")
                for at, part in enumerate(parts):
                    if part.isdigit():
                        for bad in BAD_NUMBERS:
                            other = " ".join(parts[:at] + [bad] + parts[at + 1:])
                            self.check_no_text(with_line(text, place, other))

    def test_each_number_left_out_or_too_many(self):
        for place, line in ((0, "hand 0 3 0"), (0, "hand 0 3 0 0 0"), (0, "hand"), (2, "pot 0 0 100"),
                            (2, "pot 0 0 calm"), (2, "pot"),
                            (2, "pot 0 0 100 calm calm"), (2, "pot 0 0 0 100 calm"), (3, "mine"), (3, "mine 0 60"),
                            (4, "claim"), (4, "claim held 0"),
                            (4, "claim laid"), (4, "claim laid 0"), (4, "claim laid 0 5"), (4, "claim laid 0 5 0 60"),
                            (4, "claim laid 0 0 60 40 0/5"),
                            (4, "claim taken"), (4, "claim taken 0 1"), (4, "claim given 0"), (4, "claim Held"),
                            (5, "seen 7"), (5, "seen 7/1/2"),
                            (5, "seen 7/"), (5, "seen /7"), (5, "seen 7/1 "), (5, "seen 7 1")):
            self.check_no_text(with_line(NEW, place, line))
        for line in ("asked", "asked 4", "asked 4 0", "asked 4 0 74", "asked 0 74 26 1", "asked 4 0 74 26 5",
                     "asked 4 1 74 26", "asked x 0 74 26"):
            self.check_no_text(with_line(UNDER_WAY, 13, line))
        for line in ("finish 0", "finish ", "Finish", "finished"):
            self.check_no_text(with_line(UNDER_WAY, 7, line))

    def test_states(self):
        for state in ("Calm", "calm ", "held", "", "taken", "0", "calms"):
            self.check_no_text(with_line(NEW, 2, "pot 0 0 100 " + state))
        # Where there are two stands they are told both, and else one alone.
        self.check_no_text(with_line(NEW, 2, "pot 0 0 100 offered"))
        self.check_no_text(with_line(NEW, 6, "pot 1 1 100 waiting"))
        self.check_no_text(with_line(UNDER_WAY, 2, "pot 0 0 100 calm"))

    def test_rising(self):
        for line in ("words 7 3", "words 3 3", "words 3 12 7", "words 9 10 2"):
            self.check_no_text(with_line(NEW, 1, line))
        for line in ("seen 7/1 3/1", "seen 3/1 3/2", "seen 3/1 3/1", "seen 9/0 10/0 2/0"):
            self.check_no_text(with_line(NEW, 5, line))
        for place, line in ((1, "words 2 9 10"), (5, "seen 2/9 9/0 10/1")):
            text = with_line(NEW, place, line)
            self.assertEqual(kept(read_kept(text)), text)

    def test_no_hand_and_no_side(self):
        for line in ("hand 0 0 0 0", "hand 0 51 0 0"):
            self.check_no_text(with_line(NEW, 0, line))
        self.check_no_text(with_line(NEW, 2, "pot 0 2 100 calm"))
        self.check_no_text(with_line(NEW, 4, "claim taken 2"))
        self.check_no_text(with_line(NEW, 4, "claim laid 2 5 0 60 40"))

    def test_stand_that_is_none(self):
        for bad in BAD_STANDS:
            for text, place, line in (
                (NEW, 3, "mine"), (NEW, 7, "mine"), (UNDER_WAY, 3, "mine"), (UNDER_WAY, 4, "other"),
                (UNDER_WAY, 10, "other"),
                (NEW, 4, "claim laid 1 5"), (OVER, 4, "claim laid 0 6"), (UNDER_WAY, 13, "asked 4"),
                (NEW, 4, "claim laid 2 5"),
            ):
                self.check_no_stand(with_line(text, place, line + " " + bad))
                self.check_no_text(with_line(text, place, line + " " + bad + " "))
                self.check_no_text(with_line(text, place, line + " " + bad + " 1/2/3"))

    def test_the_first_line_from_above_tells_which(self):
        bad = BAD_STANDS[0]
        stands = [(3, "mine " + bad), (4, "other " + bad), (9, "mine " + bad), (10, "other " + bad),
                  (13, "asked 4 " + bad)]
        for above, line in stands:
            for place in range(14):
                text = with_line(UNDER_WAY, above, line)
                if place != above:
                    text = with_line(text, place, "x")
                if place < above:
                    self.check_no_text(text)
                else:
                    self.check_no_stand(text)

    def test_refused_ahead_of_lines_that_fail(self):
        bad = BAD_STANDS[0]
        self.check_no_stand(with_line(NEW, 3, "mine " + bad) + "\nx")
        self.check_no_stand("\n".join(with_line(NEW, 3, "mine " + bad).split("\n")[:4]))
        self.check_no_text(with_line(with_line(NEW, 1, "words 7 3"), 3, "mine " + bad))


if __name__ == "__main__":
    unittest.main()
