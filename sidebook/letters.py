"""Letters, by which the two hands of a pot come to new stands.

("offer", pot, agree), ("accept", pot, agree, strike), ("struck", pot, strike), ("ask", pot, shares, ties),
("word", pot, word).
"""

from sidebook.bounds import is_pot, is_word
from sidebook.stands import is_stand
from sidebook.things import is_thing


def is_agree(thing):
    return is_thing(thing) and thing[0] == "agree"


def is_strike(thing):
    return is_thing(thing) and thing[0] == "strike"


def has_its_parts(letter):
    if letter[0] == "offer":
        return len(letter) == 3 and is_agree(letter[2])
    if letter[0] == "accept":
        return len(letter) == 4 and is_agree(letter[2]) and is_strike(letter[3])
    if letter[0] == "struck":
        return len(letter) == 3 and is_strike(letter[2])
    if letter[0] == "ask":
        return len(letter) == 4 and is_stand((0, letter[2], letter[3]))
    if letter[0] == "word":
        return len(letter) == 3 and is_word(letter[2])
    return False


def is_letter(thing):
    # Anything at all may lie in the first place: it is compared only once it is a text.
    if not isinstance(thing, tuple) or len(thing) < 3 or not isinstance(thing[0], str):
        return False
    return is_pot(thing[1]) and has_its_parts(thing)


def things_in(letter):
    if letter[0] == "ask":
        return []
    if letter[0] == "word":
        return [("word", letter[2])]
    return list(letter[2:])
