"""The hall: a book, the hands that keep, the road between them, and the band of all other hands."""

from sidebook.book import Book
from sidebook.bounds import is_between, is_side, other_side
from sidebook.errors import NoDeed, NoStand
from sidebook.keeper import Keeper
from sidebook.letters import is_letter, things_in
from sidebook.stands import is_stand


def words_of(hand, words):
    return [word for word, owner in words.items() if owner == hand]


class Hall:
    def __init__(self, pots, keeps, every, words=None):
        self.public = Book(pots)
        self.pots = self.public.made_of()
        self.every = every
        self.keepers = {}
        self.under_way = []
        self.things = {}
        owners = {} if words is None else words
        for hand in sorted(set(keeps)):
            self.keepers[hand] = Keeper(hand, every, self.pots, words_of(hand, owners))
        for word, owner in owners.items():
            if owner not in self.keepers:
                self.things[("word", word)] = True

    def book(self):
        return self.public

    def keeper(self, hand):
        if hand not in self.keepers:
            raise NoDeed("this hand doesn't keep")
        return self.keepers[hand]

    def road(self):
        return list(self.under_way)

    def coin(self, hand):
        return self.public.coin_of(hand)

    def has_pot(self, pot):
        return is_between(pot, 0, len(self.pots) - 1)

    def is_side_of_band(self, pot, side):
        return self.has_pot(pot) and is_side(side) and self.pots[pot][side] not in self.keepers

    def check_side_of_band(self, pot, side):
        if not self.is_side_of_band(pot, side):
            raise NoDeed("this is no side of the band")

    def band_can(self, thing):
        """Whether the band makes or has a thing."""
        if thing in self.things:
            return True
        if thing[0] == "word":
            return thing[1] in self.public.all_shown()
        return self.is_side_of_band(thing[1], thing[2])

    def send(self, sender, letters):
        for letter in letters:
            hands = self.pots[letter[1]][:2]
            to = hands[1] if hands[0] == sender else hands[0]
            if to in self.keepers:
                self.under_way.append((to, letter))
            else:
                self.tell_band(letter)

    def tell_band(self, letter):
        for thing in things_in(letter):
            self.things[thing] = True

    def hand_over(self, to, letter):
        self.send(to, self.keepers[to].take(letter))

    def wish(self, hand, wish):
        told = self.keeper(hand).wish(wish)
        self.send(hand, told[1])
        return told[0]

    def check_letter(self, k):
        if not is_between(k, 0, len(self.under_way) - 1):
            raise NoDeed("the road has no such letter")

    def deliver(self, k, stays=False):
        self.check_letter(k)
        sent = self.under_way[k]
        if not stays:
            self.under_way.pop(k)
        self.hand_over(sent[0], sent[1])

    def lose(self, k):
        self.check_letter(k)
        self.under_way.pop(k)

    def keeping_hands(self, pot):
        if not self.has_pot(pot):
            return []
        return [hand for hand in self.pots[pot][:2] if hand in self.keepers]

    def band(self, letter):
        if not is_letter(letter):
            raise NoDeed("this is no letter")
        keeping = self.keeping_hands(letter[1])
        if len(keeping) != 1:
            raise NoDeed("the band and a keeping hand don't share this pot")
        if not all([self.band_can(thing) for thing in things_in(letter)]):
            raise NoDeed("the band hasn't what it would hand over")
        self.hand_over(keeping[0], letter)

    def show(self, P, W):
        if not self.band_can(("word", W)):
            raise NoDeed("the band hasn't this word")
        self.public.show(P, W)

    def lay(self, P, side, stand):
        self.check_side_of_band(P, side)
        # Asked ahead of the agreement: what is no stand makes none.
        if not is_stand(stand):
            raise NoStand("this is no stand")
        agreement = ("agree", P, other_side(side), stand)
        self.public.lay(P, side, stand, agreement if self.band_can(agreement) else None)

    def strike(self, P, side):
        self.check_side_of_band(P, side)
        claim = self.public.told(P)
        if claim[0] != "laid":
            raise NoDeed("no stand lies there")
        thing = ("strike", P, other_side(side), claim[2][0])
        if not self.band_can(thing):
            raise NoDeed("the band hasn't the strike")
        self.public.strike(P, side, thing)

    def look(self, hand):
        return self.keeper(hand).look(self.public)

    def next_day(self):
        for keeper in self.keepers.values():
            if self.public.today() - keeper.looked() >= self.every:
                keeper.look(self.public)
        self.public.next_day()
