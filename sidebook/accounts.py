"""Accounts: what one side of a pot keeps of it. An account never changes; each deed tells another one."""

from sidebook.bounds import other_side
from sidebook.errors import NoDeed, NoStand
from sidebook.letters import is_letter
from sidebook.stands import deals, first, is_stand_of

STATES = ("calm", "offered", "waiting")


def is_following(thing, one):
    return is_stand_of(thing, deals(one)) and thing[0] == one[0] + 1


class Account:
    def __init__(self, pot, side, mine, grant, may, strikes):
        self.pot = pot
        self.side = side
        self.mine = mine
        self.grant = grant
        self.may = list(may)
        self.strikes = list(strikes)

    def agree_of(self, side, one):
        return ("agree", self.pot, side, one)

    def strike_of(self, side, one):
        return ("strike", self.pot, side, one[0])


# A truth equals 0 or 1 for ==, so each account turns away what is no letter ahead of comparing it.
class Calm(Account):
    def word(self):
        return "calm"

    def taken(self, letter):
        if self.side != 1 or not is_letter(letter) or letter[0] != "offer":
            return (self, None)
        one = letter[2][3]
        agree = self.agree_of(0, one)
        if letter != ("offer", self.pot, agree) or not is_following(one, self.mine):
            return (self, None)
        behind = Waiting(self.pot, self.side, one, agree, [self.mine, one], self.strikes)
        return (behind, ("accept", self.pot, self.agree_of(1, one), self.strike_of(1, self.mine)))


class Offered(Account):
    def word(self):
        return "offered"

    def taken(self, letter):
        one = self.may[1]
        agree = self.agree_of(1, one)
        if not is_letter(letter) or letter != ("accept", self.pot, agree, self.strike_of(1, self.mine)):
            return (self, None)
        behind = Calm(self.pot, self.side, one, agree, [one], self.strikes + [self.mine[0]])
        return (behind, ("struck", self.pot, self.strike_of(0, self.mine)))


class Waiting(Account):
    def word(self):
        return "waiting"

    def taken(self, letter):
        old = self.may[0]
        if not is_letter(letter) or letter != ("struck", self.pot, self.strike_of(0, old)):
            return (self, None)
        behind = Calm(self.pot, self.side, self.mine, self.grant, [self.mine], self.strikes + [old[0]])
        return (behind, None)


def first_account(pot, side, left, right):
    mine = first(left, right)
    return Calm(pot, side, mine, None, [mine], [])


def offered(account, shares, ties):
    if account.side != 0 or account.word() != "calm":
        raise NoDeed("only the lead offers, and only when it is calm")
    one = (account.mine[0] + 1, shares, ties)
    if not is_stand_of(one, deals(account.mine)):
        raise NoStand("what is offered is no stand of the pot")
    behind = Offered(account.pot, account.side, account.mine, account.grant, [account.mine, one], account.strikes)
    return (behind, ("offer", account.pot, account.agree_of(0, one)))


def account_in(pot, side, state, mine, other):
    """The account in a state, by its stands alone; other is the other stand that may come down."""
    # The numbers go up by one and the first stand needs no grant, so both strikes and grant follow from the stands.
    grant = None if mine[0] == 0 else ("agree", pot, other_side(side), mine)
    if state == "offered":
        return Offered(pot, side, mine, grant, [mine, other], list(range(mine[0])))
    if state == "waiting":
        return Waiting(pot, side, mine, grant, [other, mine], list(range(other[0])))
    return Calm(pot, side, mine, grant, [mine], list(range(mine[0])))
