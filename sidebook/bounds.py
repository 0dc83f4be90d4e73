"""The bounds that the other modules share: sides, hands, words, days, amounts, pots."""

MOST_WORD = 59
MOST_DAY = 1_000_000
MOST_NUMBER = 1_000_000
MOST_AMOUNT = 1_000_000_000_000
MOST_POT = 2
MOST_HAND = 3


def is_whole(thing):
    # Python counts a truth among its ints; the document doesn't.
    return isinstance(thing, int) and not isinstance(thing, bool)


def is_between(thing, least, most):
    return is_whole(thing) and least <= thing <= most


def is_side(thing):
    return is_between(thing, 0, 1)


def is_hand(thing):
    return is_between(thing, 0, MOST_HAND)


def is_word(thing):
    return is_between(thing, 0, MOST_WORD)


def is_day(thing):
    return is_between(thing, 0, MOST_DAY)


def is_number(thing):
    return is_between(thing, 0, MOST_NUMBER)


def is_amount(thing):
    return is_between(thing, 1, MOST_AMOUNT)


def is_pot(thing):
    return is_between(thing, 0, MOST_POT)


def other_side(side):
    return 1 - side
