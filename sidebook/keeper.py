"""The keeping hand: it goes by wishes, letters and looks, and never does what would cost it more than it gave away."""

from sidebook.accounts import first_account, offered
from sidebook.bounds import is_between, other_side
from sidebook.errors import NoDeed, NoSpan, NoStand
from sidebook.letters import is_letter
from sidebook.stands import deals, dropped, gift, settled, tie_of, tied, with_more
from sidebook.worth import View, paper, worth

MOST_EVERY = 50
HELD = ("held",)


def check_span(hand, every, pots):
    if not is_between(every, 1, MOST_EVERY):
        raise NoSpan("no hand looks each so many days")
    for made in pots:
        # A stand laid right behind a look must still be open to a strike at the next one.
        if hand in made[:2] and made[4] < every + 1:
            raise NoSpan("a pot waits too short for this hand")


def stands_told(account, claim):
    """The stands that may come down, by what was seen of the pot."""
    if claim[0] == "held":
        return account.may
    if claim[0] == "laid":
        return [claim[2]]
    return [(0, with_more((0, 0), claim[1], deals(account.mine)), ())]


def ties_to(account, claim):
    """The ties that the other side pays, over all stands that may come down."""
    ties = []
    for one in stands_told(account, claim):
        ties.extend([tie for tie in one[2] if tie[0] != account.side])
    return ties


def is_given_up(account, claim):
    return claim[0] == "laid" and claim[1] != account.side and claim[2][0] in account.strikes


def is_paid_by(one, word, side):
    tie = tie_of(one, word)
    return tie is not None and tie[0] == side


def stand_wished(account, wish, known):
    """The stand that would come of a wish, or NoStand."""
    mine = account.mine
    side = account.side
    if wish[0] == "give":
        return gift(mine, side, wish[2])
    if wish[0] == "pay" or wish[0] == "pass":
        return tied(mine, side, wish[2], wish[3], wish[4])
    if wish[0] == "settle" and is_paid_by(mine, wish[2], other_side(side)) and wish[2] in known:
        return settled(mine, wish[2])
    if wish[0] == "drop" and is_paid_by(mine, wish[2], side):
        return dropped(mine, wish[2])
    raise NoStand("there is nothing that this wish could come to")


def allowance_of(wish):
    return wish[2] if wish[0] == "give" or wish[0] == "pay" else 0


def step_to(account, one):
    """The account behind an offer of this stand, and the letter that this side sends for it."""
    if account.side == 0:
        return offered(account, one[1], one[2])
    offer = ("offer", account.pot, account.agree_of(0, one))
    return (account.taken(offer)[0], ("ask", account.pot, one[1], one[2]))


class Keeper:
    def __init__(self, hand, every, pots, words=None):
        check_span(hand, every, pots)
        self.hand = hand
        self.every = every
        self.last_look = 0
        self.gave = 0
        self.known = {}
        self.accounts = {}
        self.claims = {}
        self.seen = {}
        self.asked = {}
        self.finishing = {}
        self.learn([] if words is None else words)
        for pot, made in enumerate(pots):
            for side in (0, 1):
                if made[side] == hand:
                    self.hold(first_account(pot, side, made[2], made[3]), HELD, {})

    def hold(self, account, claim, seen):
        self.accounts[account.pot] = account
        self.claims[account.pot] = claim
        self.seen[account.pot] = seen

    def learn(self, words):
        for word in words:
            self.known[word] = True

    def words(self):
        return sorted(self.known)

    def looked(self):
        return self.last_look

    def given(self):
        return self.gave

    def account(self, pot):
        if pot not in self.accounts:
            raise NoDeed("the hand isn't in this pot")
        return self.accounts[pot]

    def view_by(self, accounts):
        pots = []
        for pot, account in accounts.items():
            pots.append((account.side, stands_told(account, self.claims[pot]), self.seen[pot]))
        return View(self.every, self.last_look, self.words(), pots)

    def view(self):
        return self.view_by(self.accounts)

    def worth(self):
        return worth(self.view())

    def paper(self):
        return paper(self.view())

    def is_good(self, account, allowance):
        accounts = dict(self.accounts)
        accounts[account.pot] = account
        return worth(self.view_by(accounts)) >= self.worth() - allowance

    def holds(self, pot):
        return pot in self.accounts and self.claims[pot] == HELD

    def wish(self, wish):
        if not self.holds(wish[1]):
            return (False, [])
        if wish[0] == "finish":
            self.finishing[wish[1]] = True
            return (True, [])
        account = self.accounts[wish[1]]
        if account.word() != "calm":
            return (False, [])
        try:
            one = stand_wished(account, wish, self.known)
        except NoStand:
            return (False, [])
        return self.wish_for(one, wish)

    def wish_for(self, one, wish):
        pot = wish[1]
        side = self.accounts[pot].side
        allowance = allowance_of(wish)
        step = step_to(self.accounts[pot], one)
        if not self.is_good(step[0], allowance):
            return (False, [])
        if side == 0:
            self.accounts[pot] = step[0]
            self.gave += allowance
        else:
            self.asked[pot] = (allowance, one[1], one[2])
        if wish[0] == "settle":
            return (True, [("word", pot, wish[2]), step[1]])
        return (True, [step[1]])

    def take(self, letter):
        if not is_letter(letter):
            return []
        if letter[0] == "word":
            self.learn([letter[2]])
            return []
        if not self.holds(letter[1]):
            return []
        if letter[0] == "ask":
            return self.take_ask(letter)
        return self.take_step(letter)

    def take_ask(self, letter):
        try:
            step = offered(self.accounts[letter[1]], letter[2], letter[3])
        except (NoDeed, NoStand):
            return []
        if not self.is_good(step[0], 0):
            return []
        self.accounts[letter[1]] = step[0]
        return [step[1]]

    def is_as_asked(self, letter):
        if letter[0] != "offer" or letter[1] not in self.asked:
            return False
        return letter[2][3][1:] == self.asked[letter[1]][1:]

    def take_step(self, letter):
        pot = letter[1]
        step = self.accounts[pot].taken(letter)
        if step[0] == self.accounts[pot]:
            return []
        as_asked = self.is_as_asked(letter)
        allowance = self.asked[pot][0] if as_asked else 0
        if not self.is_good(step[0], allowance):
            return []
        self.accounts[pot] = step[0]
        if as_asked:
            self.asked.pop(pot)
            self.gave += allowance
        return [] if step[1] is None else [step[1]]

    def look(self, book):
        self.last_look = book.today()
        for pot in self.accounts:
            self.claims[pot] = book.told(pot)
            self.seen[pot] = book.shown_for(pot)
        self.learn(book.all_shown())
        return self.strike_all(book) + self.show_all(book) + self.lay_all(book)

    def strike_all(self, book):
        deeds = []
        waits = [made[4] for made in book.made_of()]
        for pot, account in self.accounts.items():
            claim = self.claims[pot]
            if is_given_up(account, claim) and self.last_look < claim[3] + waits[pot]:
                book.strike(pot, account.side, account.strike_of(claim[1], claim[2]))
                self.claims[pot] = ("taken", account.side)
                deeds.append(("strike", pot))
        return deeds

    def is_to_show(self, pot, tie):
        if tie[2] not in self.known or tie[2] in self.seen[pot]:
            return False
        return self.last_look < tie[3] <= self.last_look + self.every

    def show_all(self, book):
        deeds = []
        for pot, account in self.accounts.items():
            for tie in ties_to(account, self.claims[pot]):
                if self.is_to_show(pot, tie):
                    book.show(pot, tie[2])
                    self.seen[pot][tie[2]] = self.last_look
                    deeds.append(("show", pot, tie[2]))
        return deeds

    def lay_all(self, book):
        deeds = []
        for pot, account in self.accounts.items():
            if pot in self.finishing and self.holds(pot):
                book.lay(pot, account.side, account.mine, account.grant)
                self.claims[pot] = ("laid", account.side, account.mine, self.last_look)
                deeds.append(("lay", pot))
        return deeds
