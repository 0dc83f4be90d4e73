"""Things: what one has or hasn't.

("word", word), ("strike", pot, side, number), ("agree", pot, side, stand).
"""

from sidebook.bounds import is_number, is_pot, is_side, is_word
from sidebook.stands import is_stand


def is_of_a_side(thing):
    return len(thing) == 4 and is_pot(thing[1]) and is_side(thing[2])


def is_thing(thing):
    # Anything at all may lie in the first place: it is compared only once it is a text.
    if not isinstance(thing, tuple) or len(thing) == 0 or not isinstance(thing[0], str):
        return False
    if thing[0] == "word":
        return len(thing) == 2 and is_word(thing[1])
    if thing[0] == "strike":
        return is_of_a_side(thing) and is_number(thing[3])
    if thing[0] == "agree":
        return is_of_a_side(thing) and is_stand(thing[3])
    return False


def makes(pot, side, thing):
    if not is_thing(thing) or thing[0] == "word":
        return False
    return thing[1] == pot and thing[2] == side
