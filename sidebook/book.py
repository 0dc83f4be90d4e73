"""The book: the pots, what stands in it about each of them, and what is due of them.

A pot is made of (left, right, coin_left, coin_right, wait).
"""

from sidebook.bounds import MOST_POT, is_between, is_hand, is_side, is_word, other_side
from sidebook.claims import Held, Laid, Taken
from sidebook.errors import NoDeed, NoPot, NoStand
from sidebook.stands import first, is_stand_of
from sidebook.things import is_thing

MOST_COIN = 1_000_000_000_000
MOST_WAIT = 100


def makes_a_pot(thing):
    return (
        isinstance(thing, tuple)
        and len(thing) == 5
        and is_hand(thing[0])
        and is_hand(thing[1])
        and thing[0] != thing[1]
        and is_between(thing[2], 0, MOST_COIN)
        and is_between(thing[3], 0, MOST_COIN)
        and is_between(thing[4], 1, MOST_WAIT)
    )


def checked_pots(pots):
    for number, made in enumerate(pots):
        if number > MOST_POT or not makes_a_pot(made):
            raise NoPot(number)
    return list(pots)


def whole_of(made):
    return made[2] + made[3]


def is_agreed(pot, side, stand, agreement):
    # A truth equals 0 or 1 for ==, so what is no thing is turned away first.
    return is_thing(agreement) and agreement == ("agree", pot, other_side(side), stand)


def check_side(side):
    if not is_side(side):
        raise NoDeed("there is no such side")


class Book:
    def __init__(self, pots):
        self.pots = checked_pots(pots)
        self.day = 0
        self.claims = [Held(whole_of(made)) for made in self.pots]
        self.shown = [{} for made in self.pots]

    def check_pot(self, pot):
        if not is_between(pot, 0, len(self.pots) - 1):
            raise NoDeed("the book hasn't this pot")

    def today(self):
        return self.day

    def next_day(self):
        self.day += 1

    def show(self, pot, word):
        self.check_pot(pot)
        if not is_word(word):
            raise NoDeed("there is no such word")
        # The first day is the one that counts.
        if word not in self.shown[pot]:
            self.shown[pot][word] = self.day

    def may_lie(self, pot, side, stand, agreement):
        if not isinstance(self.claims[pot], Held):
            return False
        made = self.pots[pot]
        return stand == first(made[2], made[3]) or is_agreed(pot, side, stand, agreement)

    def lay(self, pot, side, stand, agreement=None):
        self.check_pot(pot)
        check_side(side)
        made = self.pots[pot]
        if not is_stand_of(stand, whole_of(made)):
            raise NoStand("this is no stand of the pot")
        if not self.may_lie(pot, side, stand, agreement):
            raise NoDeed("this stand may not be laid down")
        self.claims[pot] = Laid(whole_of(made), side, stand, self.day, made[4])

    def strike(self, pot, side, thing):
        self.check_pot(pot)
        check_side(side)
        if not self.claims[pot].may_strike(pot, side, self.day, thing):
            raise NoDeed("there is nothing to strike with this")
        self.claims[pot] = Taken(whole_of(self.pots[pot]), side)

    def told(self, pot):
        self.check_pot(pot)
        return self.claims[pot].told()

    def shown_for(self, pot):
        self.check_pot(pot)
        return dict(self.shown[pot])

    def due_of(self, pot):
        self.check_pot(pot)
        return self.claims[pot].comes(self.day, self.shown[pot])

    def coin_of(self, hand):
        if not is_hand(hand):
            raise NoDeed("there is no such hand")
        coin = 0
        for pot, made in enumerate(self.pots):
            for side in (0, 1):
                if made[side] == hand:
                    coin += self.due_of(pot)[side]
        return coin

    def is_over(self):
        return all([self.due_of(pot)[2] == 0 for pot in range(len(self.pots))])

    def all_shown(self):
        words = {}
        for shown in self.shown:
            words.update(shown)
        return sorted(words)

    def made_of(self):
        return list(self.pots)
