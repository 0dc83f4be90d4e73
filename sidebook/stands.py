"""Stands of a pot: (number, shares, ties), and what comes of them.

A tie is (payer, amount, word, day).
"""

from sidebook.bounds import is_amount, is_between, is_day, is_number, is_side, is_word, other_side
from sidebook.errors import NoStand

MOST_SHARE = 2_000_000_000_000
MOST_TIES = 6


def is_tie(thing):
    return (
        isinstance(thing, tuple)
        and len(thing) == 4
        and is_side(thing[0])
        and is_amount(thing[1])
        and is_word(thing[2])
        and is_day(thing[3])
    )


def are_shares(thing):
    return (
        isinstance(thing, tuple)
        and len(thing) == 2
        and is_between(thing[0], 0, MOST_SHARE)
        and is_between(thing[1], 0, MOST_SHARE)
    )


def are_ties(thing):
    if not isinstance(thing, tuple) or len(thing) > MOST_TIES:
        return False
    # The words are looked at last: only those of true ties are sure to go into a set.
    if not all([is_tie(tie) for tie in thing]):
        return False
    return len(set([tie[2] for tie in thing])) == len(thing)


def is_stand(thing):
    return (
        isinstance(thing, tuple)
        and len(thing) == 3
        and is_number(thing[0])
        and are_shares(thing[1])
        and are_ties(thing[2])
    )


def stand(number, shares, ties=None):
    made = (number, shares, () if ties is None else ties)
    if not is_stand(made):
        raise NoStand("number, shares and ties make no stand")
    return made


def first(left, right):
    return stand(0, (left, right))


def deals(one):
    return sum(one[1]) + sum([tie[1] for tie in one[2]])


def is_stand_of(thing, coin):
    return is_stand(thing) and deals(thing) == coin


def with_more(shares, side, amount):
    if side == 0:
        return (shares[0] + amount, shares[1])
    return (shares[0], shares[1] + amount)


def following(one, shares, ties):
    return stand(one[0] + 1, shares, ties)


def gift(one, side, amount):
    # A stand doesn't show what was given, so the gift's own bounds are asked here.
    if not is_side(side) or not is_amount(amount):
        raise NoStand("no side gives such an amount")
    less = with_more(one[1], side, -amount)
    return following(one, with_more(less, other_side(side), amount), one[2])


def tied(one, payer, amount, word, day):
    tie = (payer, amount, word, day)
    # Asked ahead of the sum: what is no amount can't be taken from a share.
    if not is_tie(tie):
        raise NoStand("payer, amount, word and day make no tie")
    return following(one, with_more(one[1], payer, -amount), one[2] + (tie,))


def tie_of(one, word):
    for tie in one[2]:
        if tie[2] == word:
            return tie
    return None


def shown_in_time(tie, shown):
    return tie[2] in shown and shown[tie[2]] < tie[3]


def tie_to_end(one, word):
    tie = tie_of(one, word)
    if tie is None:
        raise NoStand("no tie of the stand has this word")
    return tie


def ended(one, tie, side):
    ties = tuple([rest for rest in one[2] if rest[2] != tie[2]])
    return following(one, with_more(one[1], side, tie[1]), ties)


def settled(one, word):
    tie = tie_to_end(one, word)
    return ended(one, tie, other_side(tie[0]))


def dropped(one, word):
    tie = tie_to_end(one, word)
    return ended(one, tie, tie[0])


def comes_to(one, words):
    shares = one[1]
    # Walked by ties, so that a word told twice still moves its amount once.
    for tie in one[2]:
        side = other_side(tie[0]) if tie[2] in words else tie[0]
        shares = with_more(shares, side, tie[1])
    return shares
