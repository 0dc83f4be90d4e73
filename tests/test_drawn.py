"""What the document promises over the whole program, over many drawn deeds of keeping hands and of the band."""

import collections
import copy
import random
import unittest

from sidebook.errors import BookError, NoDeed, NoStand
from sidebook.hall import Hall
from sidebook.kept import kept, read_kept
from sidebook.stands import dropped, first, gift, settled, tied
from sidebook.worth import stands_up

WORDS = 6
STEPS = 150


def draw_hall(draw):
    every = draw.randint(1, 4)
    hands = draw.choice((3, 4))
    pots = []
    for count in range(draw.randint(1, 3)):
        left, right = draw.sample(range(hands), 2)
        pots.append((left, right, draw.randint(0, 12), draw.randint(0, 12), every + draw.randint(1, 3)))
    keeps = draw.sample(range(4), draw.randint(1, 3))
    words = {word: draw.randrange(hands) for word in range(WORDS - 1)}
    return Hall(pots, keeps, every, words)


def keeping(hall):
    return [hand for hand in range(4) if is_keeping(hall, hand)]


def is_keeping(hall, hand):
    try:
        hall.keeper(hand)
    except NoDeed:
        return False
    return True


def draw_pot(draw, hall):
    return draw.randrange(len(hall.book().made_of()))


def draw_next(draw, one, today):
    """A stand behind this one."""
    try:
        kind = draw.choice(("gift", "tied", "tied", "settled", "dropped"))
        if kind == "gift":
            return gift(one, draw.randint(0, 1), draw.randint(1, 6))
        if kind == "tied":
            return tied(one, draw.randint(0, 1), draw.randint(1, 6), draw.randrange(WORDS), today + draw.randint(0, 20))
        if one[2]:
            return (settled if kind == "settled" else dropped)(one, draw.choice(one[2])[2])
    except NoStand:
        pass
    return (one[0] + 1, one[1], one[2])


def accounts_of(hall, hand):
    pots = enumerate(hall.book().made_of())
    return [hall.keeper(hand).account(pot) for pot, made in pots if hand in made[:2]]


def draw_pass(draw, hall, hand):
    """A tie to the hand, passed on in another pot, often just at the border of what is good."""
    accounts = accounts_of(hall, hand)
    ties = [(one.pot, tie) for one in accounts for tie in one.mine[2] if tie[0] != one.side]
    if not ties:
        return ("pass", draw_pot(draw, hall), 3, 0, hall.book().today() + draw.randint(0, 9))
    back, (payer, amount, word, day) = draw.choice(ties)
    pot = draw.choice([one.pot for one in accounts if one.pot != back] or [back])
    every = int(kept(hall.keeper(hand)).split(" ")[2])
    return ("pass", pot, max(0, amount - draw.randint(-1, 1)), word, max(0, day - every + draw.randint(-2, 1)))


def draw_wish(draw, hall, hand):
    pot = draw_pot(draw, hall)
    today = hall.book().today()
    kind = draw.choice(("give", "pay", "pay", "pass", "settle", "drop"))
    if draw.random() < 0.02:
        return ("finish", pot)
    if kind == "give":
        return (kind, pot, draw.randint(0, 6))
    if kind == "pay":
        return (kind, pot, draw.randint(0, 6), draw.randrange(WORDS), today + draw.randint(0, 20))
    if kind == "pass":
        return draw_pass(draw, hall, hand)
    ties = [(one.pot, tie[2]) for one in accounts_of(hall, hand) for tie in one.mine[2]]
    return (kind,) + draw.choice(ties or [(pot, draw.randrange(WORDS))])


def draw_band_letter(draw, hall):
    """A letter of the band, often one that fits."""
    pot = draw_pot(draw, hall)
    hands = [hand for hand in hall.book().made_of()[pot][:2] if is_keeping(hall, hand)]
    if len(hands) != 1 or draw.random() < 0.2:
        strike = ("strike", pot, draw.randint(0, 1), draw.randint(0, 3))
        return draw.choice((("struck", pot, strike), ("word", pot, draw.randrange(WORDS))))
    account = hall.keeper(hands[0]).account(pot)
    one = draw_next(draw, account.mine, hall.book().today())
    if account.word() == "offered":
        return ("accept", pot, ("agree", pot, 1, account.may[1]), ("strike", pot, 1, account.mine[0]))
    if account.word() == "waiting":
        return ("struck", pot, ("strike", pot, 0, account.may[0][0]))
    if account.side == 1:
        return ("offer", pot, ("agree", pot, 0, one))
    return ("ask", pot, one[1], one[2])


def draw_stand_to_lay(draw, hall, pot, side, agrees):
    made = hall.book().made_of()[pot]
    ones = [agree[3] for agree in agrees if agree[1:3] == (pot, 1 - side)]
    return draw.choice([first(made[2], made[3])] + ones)


def agrees_told(hall, agrees):
    """Keeps all agreements that the band may have come by."""
    for hand in keeping(hall):
        for account in accounts_of(hall, hand):
            for one in account.may:
                agrees[("agree", account.pot, account.side, one)] = True


def do_one(draw, hall, agrees):
    """Does one drawn deed and tells its kind and what it told."""
    agrees_told(hall, agrees)
    chance = draw.random()
    pot = draw_pot(draw, hall)
    hands = keeping(hall)
    if chance < 0.3:
        hand = draw.choice(hands)
        wish = draw_wish(draw, hall, hand)
        return (wish[0], hall.wish(hand, wish))
    if chance < 0.5 and hall.road() or chance < 0.31:
        k = draw.randrange(len(hall.road()) or 1) if draw.random() < 0.3 else 0
        if draw.random() < 0.1:
            return ("lose", hall.lose(k))
        return ("deliver", hall.deliver(k, draw.random() < 0.1))
    if chance < 0.77:
        letter = draw_band_letter(draw, hall)
        return ("band " + letter[0], hall.band(letter))
    if chance < 0.79:
        return ("show", hall.show(pot, draw.randrange(WORDS)))
    if chance < 0.8:
        side = draw.randint(0, 1)
        return ("lay", hall.lay(pot, side, draw_stand_to_lay(draw, hall, pot, side, list(agrees))))
    if chance < 0.85:
        return ("strike", hall.strike(pot, draw.randint(0, 1)))
    if chance < 0.92:
        return ("look", hall.look(draw.choice(hands)))
    return ("day", hall.next_day())


def try_one(draw, hall, agrees):
    try:
        return do_one(draw, hall, agrees)
    except BookError as refusal:
        return ("refused", refusal.__class__.__name__)


def count_one(counts, did):
    if did[0] == "look":
        counts.update(["look"] + ["look " + deed[0] for deed in did[1]])
    else:
        counts[did[0] + " not taken" if did[1] is False else did[0]] += 1


def finish_all(hall):
    for hand in keeping(hall):
        for pot in range(len(hall.book().made_of())):
            hall.wish(hand, ("finish", pot))


def state_of(hall):
    book = hall.book()
    pots = range(len(book.made_of()))
    return (
        book.today(), [book.told(pot) for pot in pots], [book.shown_for(pot) for pot in pots], hall.road(),
        [(hand, kept(hall.keeper(hand)), hall.keeper(hand).worth()) for hand in keeping(hall)],
    )


class TestPromiseOfTheWhole(unittest.TestCase):
    def check_worths(self, hall, sure):
        """Worth and given together never fall, and the paper shows the worth."""
        for hand in keeping(hall):
            keeper = hall.keeper(hand)
            now = keeper.worth() + keeper.given()
            self.assertGreaterEqual(now, sure[hand])
            sure[hand] = now
            self.assertEqual(keeper.paper()[0], keeper.worth())
            self.assertTrue(stands_up(keeper.view(), keeper.paper()))

    def check_accounts(self, hall, stands):
        """Point 22: mine is one of may, and no account ever holds two unlike stands of one number."""
        for hand in keeping(hall):
            for account in accounts_of(hall, hand):
                self.assertIn(account.mine, account.may)
                self.assertNotIn(account.mine[0], account.strikes)
                numbers = [one[0] for one in account.may]
                self.assertEqual(len(set(numbers)), len(numbers))
                for one in account.may:
                    self.assertEqual(stands.setdefault((hand, account.pot, one[0]), one), one)

    def check_strikes_sent(self, hall):
        """Point 22: the strike of a side's own mine is nowhere on the road."""
        for to, letter in hall.road():
            if letter[0] in ("accept", "struck"):
                strike = letter[-1]
                sender = hall.book().made_of()[letter[1]][strike[2]]
                self.assertNotEqual(hall.keeper(sender).account(letter[1]).mine[0], strike[3])

    def play(self, seed, counts):
        draw = random.Random(seed)
        hall = draw_hall(draw)
        sure = {hand: hall.keeper(hand).worth() for hand in keeping(hall)}
        agrees, stands = {}, {}
        for step in range(STEPS):
            count_one(counts, try_one(draw, hall, agrees))
            self.check_worths(hall, sure)
            self.check_accounts(hall, stands)
            self.check_strikes_sent(hall)
        finish_all(hall)
        for step in range(50):
            try_one(draw, hall, agrees)
            self.check_worths(hall, sure)
            finish_all(hall)
        while hall.book().today() < 100:
            hall.next_day()
        self.check_end(hall, sure)

    def check_end(self, hall, sure):
        for hand in keeping(hall):
            self.assertGreaterEqual(hall.coin(hand), sure[hand] - hall.keeper(hand).given())
            for account in accounts_of(hall, hand):
                self.assertEqual(hall.book().due_of(account.pot)[2], 0)

    def test_worth_and_given_never_fall_and_the_end_is_no_less(self):
        counts = collections.Counter()
        for seed in range(250):
            with self.subTest(seed=seed):
                self.play(seed, counts)
        # A draw that never came to something would prove nothing of it.
        for kind in (
            "give", "pay", "pass", "settle", "drop", "finish", "give not taken", "pay not taken", "pass not taken",
            "settle not taken", "drop not taken", "finish not taken", "deliver", "lose", "band offer", "band accept",
            "band struck", "band ask", "band word", "show", "lay", "strike", "look", "look strike", "look show",
            "look lay", "day", "refused",
        ):
            self.assertGreater(counts[kind], 5, kind)

    def test_who_lays_a_stand_that_was_struck_loses_the_pot(self):
        seen = 0
        for seed in range(120):
            draw = random.Random(seed)
            hall = draw_hall(draw)
            agrees = {}
            for step in range(STEPS):
                try_one(draw, hall, agrees)
            seen += self.cheat(draw, hall, agrees)
        self.assertGreater(seen, 20)

    def cheat(self, draw, hall, agrees):
        """The band lays what it can of the stands that were given up to a keeping hand; tells how many pots it lost."""
        lost = []
        for hand in keeping(hall):
            hall.look(hand)
            for pot, made in enumerate(hall.book().made_of()):
                if hand not in made[:2] or hall.book().told(pot) != ("held",):
                    continue
                account = hall.keeper(hand).account(pot)
                ones = [agree[3] for agree in agrees if agree[1:3] == (pot, account.side)]
                ones = [one for one in ones + [first(made[2], made[3])] if one[0] in account.strikes]
                if ones and not is_keeping(hall, made[1 - account.side]):
                    try:
                        hall.lay(pot, 1 - account.side, draw.choice(ones))
                    except BookError:
                        continue
                    lost.append((hand, pot, account.side))
        for day in range(6):
            hall.next_day()
        for hand, pot, side in lost:
            self.assertEqual(hall.book().told(pot), ("taken", side))
            self.assertEqual(hall.book().due_of(pot)[side], sum(hall.book().made_of()[pot][2:4]))
        return len(lost)


class TestReadBackAmidDeeds(unittest.TestCase):
    def test_answers_as_the_other_would(self):
        for seed in range(60):
            with self.subTest(seed=seed):
                self.play(seed)

    def play(self, seed):
        draw = random.Random(seed)
        hall = draw_hall(draw)
        agrees = {}
        for step in range(STEPS):
            if step % 10 == 0:
                twin = self.read_back(hall)
                twin_draw = random.Random()
                twin_draw.setstate(draw.getstate())
                twin_agrees = dict(agrees)
            did = try_one(draw, hall, agrees)
            self.assertEqual(try_one(twin_draw, twin, twin_agrees), did)
            self.assertEqual(state_of(twin), state_of(hall))

    def read_back(self, hall):
        """The same hall once more, each of whose keeping hands was read from its small book."""
        twin = copy.deepcopy(hall)
        for hand in keeping(hall):
            text = kept(hall.keeper(hand))
            twin.keepers[hand] = read_kept(text)
            self.check_same(twin.keeper(hand), hall.keeper(hand))
            self.assertEqual(kept(twin.keeper(hand)), text)
        return twin

    def check_same(self, again, keeper):
        for asked in (lambda one: one.words(), lambda one: one.looked(), lambda one: one.given(),
                      lambda one: one.worth()):
            self.assertEqual(asked(again), asked(keeper))
        for pot in range(3):
            try:
                account = keeper.account(pot)
            except NoDeed:
                self.assertRaises(NoDeed, again.account, pot)
                continue
            other = again.account(pot)
            for name in ("pot", "side", "mine", "grant", "may", "strikes"):
                self.assertEqual(getattr(other, name), getattr(account, name))
            self.assertEqual(other.word(), account.word())


if __name__ == "__main__":
    unittest.main()
